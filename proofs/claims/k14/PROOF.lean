import PyProof.Rows.All
import Wide.All
import OpenK.AllK
import Wide.FinOn
import HandS.ForMost
import HandS.ForExc
import HandS.IsInst
import HandS.Zip
import HandS.TupAny
import KE.LtData
import KE.DataEq
import PyProof.ReprRoads
import HandS.Text
import HandS.Walk
import HandS.FStrTup
import HandS.Iter
import HandS.Style
import PyProof.TupleOfStr
import PyProof.EnumMake
import PyProof.Draws
import HandS.Conv
import KE.SortData
import HandS.SetFor
import HandS.Strs
import PyProof.Rows.SetFrom
import PyProof.NeKinds
import PyProof.StrBlock2
import HandS.DictComp
import HandS.Flow
import PyProof.P3In
import KE.KDictZip
import KE.GoesZip
import KE.GoesMore
import HandS.Zip0
import PyProof.ListNew
import HandS.TupMul
import HandS.StrMore
import HandS.TupSets
import PySem.Challenge.RW_gridupgrade_k14_apart_sets_of_any_value
set_option Elab.async false
set_option linter.all false
section
set_option maxRecDepth 100000
/-! A def's promise that holds where no repr is under way (the guards of the surroundings are known and empty). -/
namespace Gd
open PySem PySem.Spec PyProof.Rows L2
structure FnG (P : Program) (w : World) (K : PySem.W.Frag) (mg : Str → Option Value) (base : Heap) (CX : CXT) (k : Nat) (f : Addr) (fd : FuncData) (ps : List Str) (sp : Sp) : Prop where
  len : ∀ vs H Q E, sp vs H Q E → vs.length = ps.length
  run : ∀ (A : Around) (outer : List Env) (s : Shared) (H : Hp) (ar : Args) (us : List Value) (vs : List V) (Q : VK) (E : XK), A.guards = some [] → Room k A →
    Env0 P w K mg base A outer s H → BindsTo s fd ar (ps.zip us) → Vals vs us → sp vs H Q E → codeAny (model P w) A (.call (.ref f) ar) (CR CX outer P w H s Q E) s
section
variable {P : Program} {w : World} {K : PySem.W.Frag} {mg : Str → Option Value} {base : Heap} {CX : CXT} {j k : Nat} {f : Addr} {fd : FuncData} {ps : List Str} {sp sp' : Sp}
theorem FnG.of (F : FnOk P w K mg base CX k f fd ps sp) : FnG P w K mg base CX k f fd ps sp :=
  ⟨F.len, fun A o s H ar us vs Q E _ => F.run A o s H ar us vs Q E⟩
theorem FnG.mono (F : FnG P w K mg base CX j f fd ps sp) (h : j ≤ k) : FnG P w K mg base CX k f fd ps sp :=
  ⟨F.len, fun A o s H ar us vs Q E hg hr => F.run A o s H ar us vs Q E hg (hr.mono h)⟩
theorem FnG.imp (F : FnG P w K mg base CX k f fd ps sp) (h : ∀ vs H Q E, sp' vs H Q E → sp vs H Q E) : FnG P w K mg base CX k f fd ps sp' :=
  ⟨fun vs H Q E q => F.len vs H Q E (h _ _ _ _ q), fun A o s H ar us vs Q E hg hr he hb hv q => F.run A o s H ar us vs Q E hg hr he hb hv (h _ _ _ _ q)⟩
end
/-- from what a call's end says to the code's end -/
theorem ended {X : Cx} {CX : CXT} {E : XK} {Q : VK} {pins : List (Addr × Obj)} {σ : L2.St} {H : Hp} {s s' : Shared} (hx : Passes CX X E) (I : Inv X pins σ H s) :
    ∀ r : Result, CR CX X.stack X.prog X.w H s Q E r s' → (match r with | .ok (.ret u) => EP X pins σ Q u s' | .ok _ => False | .error e => X.xe e s')
  | .error e, q => hx pins σ H s e s' I q
  | .ok (.ret _), q => I.after q
  | .ok .next, q => q
  | .ok .brk, q => q
  | .ok .cont, q => q
section
variable {X : Cx} {CX : CXT} {k : Nat} {f : Addr} {fd : FuncData} {ps ks : List Str} {sp : Sp} {dvs : List V} {ds : List Value} {E : XK} {x : Str} {p pos : Pos} {e : Expr} {es : List Expr} {t tk : TA} {kws : List Keyword} {g : List Value → List Value → List Value} {gV : List V → List V → List V}
theorem runG {pins : List (Addr × Obj)} {σ : L2.St} {H : Hp} {s : Shared} {Q : VK} {us : List Value} {vs : List V} (F : FnG X.prog X.w X.K X.mg X.base CX k f fd ps sp) (hgu : X.A.guards = some []) (hr : Room k X.A) (hb : Binds X.K fd ps ds)
    (hd : Vals dvs ds) (hx : Passes CX X E) (I : Inv X pins σ H s) (r : Vals vs us) (h : sp (vs ++ dvs) H Q E) : wpAny (model X.prog X.w) X.A (call (.ref f) us) (EP X pins σ Q) X.xe s := by
  have both := r.append hd
  have many : (us ++ ds).length = ps.length := both.length ▸ F.len _ _ _ _ h
  refine wpAny_call (codeAny_mono (F.run X.A X.stack s H _ _ _ Q E hgu hr I.env0 (hb s us I.kIn many) both h) fun z s' q => ?_)
  exact ended hx I z q
theorem runGK {pins : List (Addr × Obj)} {σ : L2.St} {H : Hp} {s : Shared} {Q : VK} {us ws : List Value} {vs zs : List V} (F : FnG X.prog X.w X.K X.mg X.base CX k f fd ps sp) (hgu : X.A.guards = some []) (hr : Room k X.A) (hb : KBinds X.K fd ps ks g gV)
    (hx : Passes CX X E) (I : Inv X pins σ H s) (r : Vals vs us) (rz : Vals zs ws) (h : sp (gV vs zs) H Q E) : wpAny (model X.prog X.w) X.A (call (.ref f) us (ks.zip ws)) (EP X pins σ Q) X.xe s := by
  have both := hb.rel r rz
  have many : (g us ws).length = ps.length := both.length ▸ F.len _ _ _ _ h
  refine wpAny_call (codeAny_mono (F.run X.A X.stack s H _ _ _ Q E hgu hr I.env0 (hb.to s us ws I.kIn many) both h) fun z s' q => ?_)
  exact ended hx I z q
/-- f(e, ..) -/
theorem pcall (F : FnG X.prog X.w X.K X.mg X.base CX k f fd ps sp) (hgu : X.A.guards = some []) (hr : Room k X.A) (hg : Gl X x) (hm : X.mg x = some (.ref f)) (hk : PySem.W.keepIn X.K (.ref f) = true)
    (hb : Binds X.K fd ps ds) (hd : Vals dvs ds) (hx : Passes CX X E) (ha : PA X (e :: es) t) (hdb : (x == ("__debug__" : Str)) = false := by decide)
    (he : starEach (e :: es) X.env = (false, eval e X.env) :: starEach es X.env := by rfl) (hpl : (backTo pos (starEach es X.env)).any (·.1) = false := by rfl) :
    PE X (.Call (.Name x p) (e :: es) [] pos) (tCall sp dvs E t) :=
  ⟨fun pins s σ H Q I h => wpAny_Call_Name_kw (ld_glob I hg hm (PySem.W.callWith_K (h₀ := X.base) I.ok.mod.kin hk
    (thn (ha.run pos pins s σ H _ I h) fun us s1 ⟨vs, H1, I1, r, q⟩ => ⟨I1.kIn, runG F hgu hr hb hd hx I1 r q⟩) he hpl) hdb)⟩
/-- f() -/
theorem pcall0 (F : FnG X.prog X.w X.K X.mg X.base CX k f fd ps sp) (hgu : X.A.guards = some []) (hr : Room k X.A) (hg : Gl X x) (hm : X.mg x = some (.ref f)) (hk : PySem.W.keepIn X.K (.ref f) = true)
    (hb : Binds X.K fd ps ds) (hd : Vals dvs ds) (hx : Passes CX X E) (hdb : (x == ("__debug__" : Str)) = false := by decide) : PE X (.Call (.Name x p) [] [] pos) (tCall sp dvs E tNil) :=
  ⟨fun pins s σ H Q I h => wpAny_Call_Name_kw (ld_glob I hg hm (PySem.W.callWith_K0 I.kIn hk (runG (us := []) F hgu hr hb hd hx I .nil h)) hdb)⟩
end
/-! ### a def by its body -/
section
variable {P : Program} {w : World} {K : PySem.W.Frag} {mg : Str → Option Value} {base : Heap} {CX : CXT} {k : Nat} {f : Addr} {N ps : List Str} {sp : Sp}
theorem fn_ofG {name qual : Str} {params : Arguments} {body : List Stmt} {scope : Scope} {dV kV doc pm cdv ct oc : Value} {an od : Option Addr} {osl : Array (Option Value)}
    (lk : K.lookup f = some ⟨oc, od, .func (PySem.W.fnOf name qual params body scope dV kV doc pm an cdv ct), osl⟩) (hcd : PySem.W.codeIn K cdv qual = true) (S : FnScope N ps scope) (len : ∀ vs H Q E, sp vs H Q E → vs.length = ps.length)
    (hbody : ∀ (A : Around) (outer : List Env) (s : Shared) (H : Hp) (vs : List V) (Q : VK) (E : XK), A.guards = some [] → Room k (A.deeper (envOfC qual scope s.heap.objs.size f cdv)) → sp vs H Q E →
      ∃ t, PSs (cxOf CX P w K mg base N qual scope f cdv A outer s H E) body t ∧ t { nx := fun _ H' => Q .non H', rt := Q } (start N vs) H) :
    FnG P w K mg base CX (k + 1) f (PySem.W.fnOf name qual params body scope dV kV doc pm an cdv ct) ps sp := by
  refine ⟨len, fun A outer s H ar us vs Q E hgu room e0 hb r hsp => ?_⟩
  have stand := fun b o e => (e0.bs b o e).1
  have kx : K.In s.heap := e0.mod.kin.keeps stand
  refine codeAny_call_function room.depth (kx _ _ lk) rfl S.co S.gen rfl (PySem.W.codeRec_of kx hcd) (hb _ _ _ _ (wpAny_newFunctionEnv_cells S.kind (fun ⟨n, v⟩ hy => ?_) fun env he s1 x => ?_))
  · exact (S.par n (List.of_mem_zip hy).1).imp id fun q => ⟨q, PySem.W.cellsFrom_some _ _ _ (.inl q)⟩
  subst he
  refine ⟨(e0.mod.nolimit.keeps stand).keeps x.toInCall.keep, codeAny_func ?_⟩
  obtain ⟨t, ht, hq⟩ := hbody A outer s H vs Q E hgu (room.deeper _) hsp
  have I : Inv (cxOf CX P w K mg base N qual scope f cdv A outer s H E) [] (start N vs) H s1 := inv_start S room.hd e0 (len _ _ _ _ hsp) r x
  refine wpAny_mono (ht.run [] s1 (start N vs) H _ I hq) (fun fl s' hs => ?_) fun _ _ z => z
  cases fl with
  | ret u => exact let ⟨v, _, H', J, rv, q⟩ := hs; ⟨v, H', J.os, J.bare, J.base, J.hok, rv, q⟩
  | next => exact let ⟨_, H', J, q⟩ := hs; ⟨V.non, H', J.os, J.bare, J.base, J.hok, rfl, q⟩
  | brk => exact let ⟨_, _, _, q⟩ := hs; q.elim
  | cont => exact let ⟨_, _, _, q⟩ := hs; q.elim
variable {x qual : Str} {st : Stmt} {fd : FuncData}
/-- a def that lets no exception out -/
theorem okG (F : Fun K x qual st f fd) (S : FnScope N ps (defScope st)) (len : ∀ vs H Q E, sp vs H Q E → vs.length = ps.length)
    (hbody : ∀ (cdv : Value) (A : Around) (outer : List Env) (s : Shared) (H : Hp) (vs : List V) (Q : VK) (E : XK), A.guards = some [] → Room k (A.deeper (envOfC qual (defScope st) s.heap.objs.size f cdv)) → sp vs H Q E →
      ∃ t, PSs (cxOf CX0 P w K mg base N qual (defScope st) f cdv A outer s H E).nox (defBody st) t ∧ t { nx := fun _ H' => Q .non H', rt := Q } (start N vs) H) : FnG P w K mg base CX0 (k + 1) f fd ps sp := by
  obtain ⟨_, _, _, _, _, _, cdv, _, _, rfl, lk, hcd⟩ := F.ex
  exact fn_ofG lk hcd S len fun A outer s H vs Q E hgu room h => let ⟨t, h1, h2⟩ := hbody cdv A outer s H vs Q E hgu room h; ⟨t, h1.nox, h2⟩
/-- a def that may raise -/
theorem okGX (F : Fun K x qual st f fd) (S : FnScope N ps (defScope st)) (len : ∀ vs H Q E, sp vs H Q E → vs.length = ps.length)
    (hbody : ∀ (cdv : Value) (A : Around) (outer : List Env) (s : Shared) (H : Hp) (vs : List V) (Q : VK) (E : XK), A.guards = some [] → Room k (A.deeper (envOfC qual (defScope st) s.heap.objs.size f cdv)) → sp vs H Q E →
      ∃ t, PSs (cxOf (L2.CX P w) P w K mg base N qual (defScope st) f cdv A outer s H E) (defBody st) t ∧ t { nx := fun _ H' => Q .non H', rt := Q } (start N vs) H) : FnG P w K mg base (L2.CX P w) (k + 1) f fd ps sp := by
  obtain ⟨_, _, _, _, _, _, cdv, _, _, rfl, lk, hcd⟩ := F.ex
  exact fn_ofG lk hcd S len fun A outer s H vs Q E => hbody cdv A outer s H vs Q E
end
end Gd
end

section
set_option maxRecDepth 100000
namespace Gd
open PySem PySem.Spec PyProof.Rows L2
section
variable {P : Program} {w : World} {K : PySem.W.Frag} {mg mb : Str → Option Value} {k : Nat} {fa a : Addr} {fd : FuncData} {x : Str} {sp : Sp} {t : Shared} {vs : List Value} {ns : List Int}
/-- the law's own call from a heap in which at most the script is tracked -/
theorem core (KX : K.In t.heap) (hns : t.heap.Ns mainGlobals mg) (hb : t.heap.Ns builtinsNs mb) (hbb : ∀ x : Str, x ≠ "__name__" → mb x = bootBuiltins x) (hlim : t.heap.NoLimit) (hg : t.gens = #[])
    (ha : t.heap.get? a = some { cls := .type "list", data := .seq vs.toArray }) (hr : Room k callerA)
    (F : ∀ base : Heap, K.In base → base.Ns mainGlobals mg → FnG P w K mg base CX0 k fa fd [x] sp) (hbind : ∀ (s : Shared) (u : Value), BindsTo s fd ⟨[u], []⟩ [(x, u)])
    (H : Hp) (only : Only H) (ok : HOk P w H t.heap) (one : ∀ b, H b ≠ none → b = a) (apart : H a ≠ none → K.lookup a = none) (hsp : sp [.ref a] H (fun v _ => v = .bl true) fun _ _ _ => False) :
    codeAny (model P w) callerA (.call (.ref fa) ⟨[.ref a], []⟩) (fun r s' => r = .ok (.ret (.bool true)) ∧ OldK t.heap s'.heap ∧ s'.os = t.os ∧ AllBare s'.gens) t := by
  have out : ∀ {b : Addr}, b ≠ a → H b = none := fun {b} ne => Classical.byContradiction fun z => ne (one b z)
  have dictOut : ∀ {b : Addr} {o : Obj} {es : Array DictEntry} {ep : Nat}, t.heap.get? b = some o → o.data = .dict es ep → H b = none := fun {b o es ep} e d => out fun z => by
    subst z
    rw [ha] at e
    cases e
    exact nomatch d
  have ns' : ∀ {b : Addr} {m : Str → Option Value}, t.heap.Ns b m → (hidT t.heap H).Ns b m := fun ⟨o, es, ep, e, d, r⟩ => ⟨o, es, ep, hidT_get e (dictOut e d), d, r⟩
  have kin : K.In (hidT t.heap H) := fun b o e => hidT_get (KX b o e) (Classical.byContradiction fun z => by
    have same := one b z
    subst same
    have none := apart z
    rw [none] at e
    cases e)
  have md : Mod K mg (hidT t.heap H) := ⟨kin, ns' hns, ⟨mb, ns' hb, hbb⟩, let ⟨mc, h1, h2⟩ := hlim; ⟨mc, ns' h1, h2⟩⟩
  have env : Env0 P w K mg (hidT t.heap H) callerA [] t H := ⟨rfl, md, fun b o e => of_hidT e, Nat.le_of_eq (hidT_size _ _), trivial, fun b z => (List.not_mem_nil z).elim, ok, .of_eq hg⟩
  refine codeAny_mono ((F _ kin (ns' hns)).run callerA [] t H _ [.ref a] [.ref a] _ _ rfl hr env (hbind t _) (.cons rfl .nil) hsp) fun r s' h => ?_
  match r, h with
  | .ok (.ret u), ⟨v, H', os, bare, un, ok', rel, q⟩ =>
    have q : v = .bl true := q
    subst q
    obtain rfl : u = Value.bool true := rel
    refine ⟨rfl, OldK.of_keep fun b o e => ?_, os, bare⟩
    cases c : H b with
    | none => exact un.keep b o e c List.not_mem_nil List.not_mem_nil
    | some z =>
      obtain z2 | ⟨ob, xs, z2⟩ := only b
      · rw [z2] at c; cases c
      · have one := (ok b _ z2).1
        rw [e] at one
        cases one
        exact (ok' b _ (un.frzs b _ _ z2)).1
theorem lawG (KX : K.In t.heap) (hns : t.heap.Ns mainGlobals mg) (hb : t.heap.Ns builtinsNs mb) (hbb : ∀ x : Str, x ≠ "__name__" → mb x = bootBuiltins x) (hlim : t.heap.NoLimit) (hg : t.gens = #[])
    (ha : t.heap.get? a = some { cls := .type "list", data := .seq vs.toArray }) (hi : IntsAre vs ns) (hl : ns.length ≤ sizeLine) (hr : Room k callerA)
    (F : ∀ base : Heap, K.In base → base.Ns mainGlobals mg → FnG P w K mg base CX0 k fa fd [x] sp) (hbind : ∀ (s : Shared) (u : Value), BindsTo s fd ⟨[u], []⟩ [(x, u)])
    (hsp : ∀ H : Hp, Only H → SqL K H a (ns.map V.int) → sp [.ref a] H (fun v _ => v = .bl true) fun _ _ _ => False) :
    codeAny (model P w) callerA (.call (.ref fa) ⟨[.ref a], []⟩) (fun r s' => r = .ok (.ret (.bool true)) ∧ OldK t.heap s'.heap ∧ s'.os = t.os ∧ AllBare s'.gens) t := by
  have rv := vals_ints hi
  have many := hi.length
  by_cases known : ∃ o, K.lookup a = some o
  · -- the script is one of the module's own objects: nothing is tracked
    obtain ⟨o, known⟩ := known
    have e := KX a o known
    rw [ha] at e
    cases e
    have sq : SqL K (fun _ => none) a (ns.map V.int) := .inr ⟨_, vs.toArray, _, known, rfl, rfl, rfl, by rw [List.size_toArray, many]; exact hl, by simpa using rv⟩
    exact core KX hns hb hbb hlim hg ha hr F hbind (fun _ => none) (fun _ => .inl rfl) (fun _ _ z => nomatch z) (fun _ z => absurd rfl z) (fun z => absurd rfl z) (hsp _ (fun _ => .inl rfl) sq)
  · have free : K.lookup a = none := by
      cases c : K.lookup a with
      | none => rfl
      | some o => exact absurd ⟨o, c⟩ known
    let T : Hp := upd (fun _ => none) a (.frz { cls := .type "list", data := .seq vs.toArray } (.lst (ns.map V.int)))
    have only : Only T := fun b => by
      by_cases c : b = a
      · subst c; exact .inr ⟨_, _, upd_same⟩
      · exact .inl (upd_ne c)
    refine core KX hns hb hbb hlim hg ha hr F hbind T only (fun b u z => ?_) (fun b z => Classical.byContradiction fun c => z (upd_ne c)) (fun _ => free) (hsp T only (.inl (.inr ⟨_, upd_same⟩)))
    by_cases c : b = a
    · subst c
      have z2 : T b = _ := upd_same
      rw [z2] at z
      cases z
      exact ⟨ha, by rw [List.length_map]; exact hl, vs, _, rv, ha⟩
    · have z2 : T b = none := upd_ne c
      rw [z2] at z
      cases z
end
theorem walkG {l : PySem.W.OpenLaw} {n k : Nat} {q : Program} {loose : List Str} {XP : (Str → Option Value) → Heap → Prop} {YP : World → Heap → Prop} {d : DefRec} {K : Params → PySem.W.Frag} {sp : PySem.W.Frag → Sp} {x : Str}
    (most : l.most = some n) (small : n ≤ sizeLine) (plain : d.params.defaults = []) (room : Room k callerA) (hY : ∀ (w : World) (h : Heap), YP w h → (K w.params).In h)
    (F : ∀ (w : World) (mg : Str → Option Value) (fa : Addr) (h : Heap), (K w.params).In h → h.Ns mainGlobals mg → mg d.name = some (.ref fa) →
      ∃ fd : FuncData, (∀ (s : Shared) (u : Value), BindsTo s fd ⟨[u], []⟩ [(x, u)]) ∧
        ∀ base : Heap, (K w.params).In base → base.Ns mainGlobals mg → FnG l.prog w (K w.params) mg base CX0 k fa fd [x] (sp (K w.params)))
    (hsp : ∀ (K : PySem.W.Frag) (H : Hp) (a : Addr) (ns : List Int), ns.length ≤ n → Only H → SqL K H a (ns.map V.int) → sp K [.ref a] H (fun v _ => v = .bl true) fun _ _ _ => False) :
    PySem.W.WalkO q loose XP YP l.row.toRowW d [] (fun f vs => PySem.call f vs) :=
  Att.attach_call most plain fun w s₀ s₁ mg mb fa o pm cd doc a vs ns G Y ho hd hcd hmg hobj hints hlen hg =>
    let KX := hY w _ Y
    let ⟨_, hb, hF⟩ := F w mg fa _ KX G.T.g hmg
    lawG KX G.T.g G.T.b G.T.builtins G.T.nolimit hg hobj hints (Nat.le_trans hlen small) room hF hb fun H hO hS => hsp (K w.params) H a ns hlen hO hS
end Gd
end

section
set_option maxRecDepth 100000
set_option maxHeartbeats 2000000
/-! Data that lie in the abstract heap: what a value reads as, whatever grows beside it. M: the addresses of lists that may still change. -/
namespace Gd
open PySem PySem.Spec PyProof.Rows L2
def keyD : Key → PyData
  | .inl i => .int i
  | .inr x => .str x
mutual
inductive Rep (M : List Addr) (H : Hp) : V → PyData → Prop
  | non : Rep M H .non .none
  | bl (b : Bool) : Rep M H (.bl b) (.bool b)
  | int (i : Int) : Rep M H (.int i) (.int i)
  | str (x : Str) : Rep M H (.str x) (.str x)
  | tup {a : Addr} {vs : List V} {ds : List PyData} : a ∉ M → H a = some (.tup vs) → Reps M H vs ds → Rep M H (.ref a) (.tuple ds)
  | lst {a : Addr} {vs : List V} {ds : List PyData} : a ∉ M → a ≠ sysModules → H a = some (.lst vs) → Reps M H vs ds → Rep M H (.ref a) (.list ds)
  | emp {a : Addr} : a ∉ M → H a = some (.dK []) → Rep M H (.ref a) (.dict [])
inductive Reps (M : List Addr) (H : Hp) : List V → List PyData → Prop
  | nil : Reps M H [] []
  | cons {v : V} {vs : List V} {d : PyData} {ds : List PyData} : Rep M H v d → Reps M H vs ds → Reps M H (v :: vs) (d :: ds)
end
/-- all but what stands at M is kept -/
def Kp (M : List Addr) (H H' : Hp) : Prop := ∀ b o, b ∉ M → H b = some o → H' b = some o
/-- what stands at M is there -/
def Live (M : List Addr) (H : Hp) : Prop := ∀ b ∈ M, ∃ o, H b = some o
theorem Kp.refl {M : List Addr} {H : Hp} : Kp M H H := fun _ _ _ e => e
theorem Kp.trans {M : List Addr} {H H1 H2 : Hp} (a : Kp M H H1) (b : Kp M H1 H2) : Kp M H H2 := fun c o hc e => b c o hc (a c o hc e)
theorem Kp.new {M : List Addr} {H : Hp} {p : Addr} {o : HO} (h : H p = none) : Kp M H (upd H p o) := fun b x _ e => by rw [upd_ne (ne_of_none e h)]; exact e
theorem Kp.more {M M' : List Addr} {H H' : Hp} (h : ∀ b ∈ M, b ∈ M') (k : Kp M H H') : Kp M' H H' := fun b o hb e => k b o (fun z => hb (h b z)) e
theorem Kp.same {H H' : Hp} (k : Kp [] H H') {M : List Addr} : Kp M H H' := k.more fun _ z => (List.not_mem_nil z).elim
theorem Kp.put {M : List Addr} {H : Hp} {p : Addr} {o : HO} (h : p ∈ M) : Kp M H (upd H p o) := fun b x hb e => by rw [upd_ne (fun z : b = p => hb (by rw [z]; exact h))]; exact e
/-- a change at a place that was new -/
theorem Kp.drop {M : List Addr} {H H' : Hp} {p : Addr} (hp : H p = none) (k : Kp (p :: M) H H') : Kp M H H' := fun b o hb e =>
  k b o (fun z => (List.mem_cons.mp z).elim (fun z => by rw [z, hp] at e; cases e) hb) e
theorem Live.nil {H : Hp} : Live [] H := fun _ z => (List.not_mem_nil z).elim
theorem Live.cons {M : List Addr} {H : Hp} {p : Addr} {o : HO} (e : H p = some o) (l : Live M H) : Live (p :: M) H := fun b hb => (List.mem_cons.mp hb).elim (fun z => ⟨o, z ▸ e⟩) (l b)
theorem Live.fresh {M : List Addr} {H : Hp} {p : Addr} (l : Live M H) (h : H p = none) : p ∉ M := fun z => by obtain ⟨o, e⟩ := l p z; rw [h] at e; cases e
/-- (a heap that only grew keeps them there) -/
theorem Live.new {M : List Addr} {H : Hp} {p : Addr} {o : HO} (l : Live M H) : Live M (upd H p o) := fun b hb => by
  by_cases e : b = p
  · exact ⟨o, by rw [e, upd_same]⟩
  · obtain ⟨x, h⟩ := l b hb
    exact ⟨x, by rw [upd_ne e]; exact h⟩
mutual
theorem Rep.keep {M : List Addr} {H H' : Hp} (k : Kp M H H') : ∀ {v : V} {d : PyData}, Rep M H v d → Rep M H' v d
  | _, _, .non => .non
  | _, _, .bl b => .bl b
  | _, _, .int i => .int i
  | _, _, .str x => .str x
  | _, _, .tup n e r => .tup n (k _ _ n e) (Reps.keep k r)
  | _, _, .lst n z e r => .lst n z (k _ _ n e) (Reps.keep k r)
  | _, _, .emp n e => .emp n (k _ _ n e)
theorem Reps.keep {M : List Addr} {H H' : Hp} (k : Kp M H H') : ∀ {vs : List V} {ds : List PyData}, Reps M H vs ds → Reps M H' vs ds
  | _, _, .nil => .nil
  | _, _, .cons r s => .cons (Rep.keep k r) (Reps.keep k s)
end
mutual
/-- other lists that may change -/
theorem Rep.swap {M M' : List Addr} {H : Hp} (k : ∀ b o, H b = some o → b ∉ M → b ∉ M') : ∀ {v : V} {d : PyData}, Rep M H v d → Rep M' H v d
  | _, _, .non => .non
  | _, _, .bl b => .bl b
  | _, _, .int i => .int i
  | _, _, .str x => .str x
  | _, _, .tup n e r => .tup (k _ _ e n) e (Reps.swap k r)
  | _, _, .lst n z e r => .lst (k _ _ e n) z e (Reps.swap k r)
  | _, _, .emp n e => .emp (k _ _ e n) e
theorem Reps.swap {M M' : List Addr} {H : Hp} (k : ∀ b o, H b = some o → b ∉ M → b ∉ M') : ∀ {vs : List V} {ds : List PyData}, Reps M H vs ds → Reps M' H vs ds
  | _, _, .nil => .nil
  | _, _, .cons r s => .cons (Rep.swap k r) (Reps.swap k s)
end
theorem Rep.more {M : List Addr} {H : Hp} {p : Addr} {v : V} {d : PyData} (h : H p = none) (r : Rep M H v d) : Rep (p :: M) H v d :=
  r.swap fun b o e n z => (List.mem_cons.mp z).elim (fun q => by rw [q, h] at e; cases e) n
theorem Reps.more {M : List Addr} {H : Hp} {p : Addr} {v : List V} {d : List PyData} (h : H p = none) (r : Reps M H v d) : Reps (p :: M) H v d :=
  r.swap fun b o e n z => (List.mem_cons.mp z).elim (fun q => by rw [q, h] at e; cases e) n
theorem Rep.less {M M' : List Addr} {H : Hp} {v : V} {d : PyData} (h : ∀ b ∈ M', b ∈ M) (r : Rep M H v d) : Rep M' H v d := r.swap fun b _ _ n z => n (h b z)
theorem Reps.less {M M' : List Addr} {H : Hp} {v : List V} {d : List PyData} (h : ∀ b ∈ M', b ∈ M) (r : Reps M H v d) : Reps M' H v d := r.swap fun b _ _ n z => n (h b z)
theorem Reps.length {M : List Addr} {H : Hp} : ∀ {vs : List V} {ds : List PyData}, Reps M H vs ds → vs.length = ds.length
  | _, _, .nil => rfl
  | _, _, .cons _ r => congrArg (· + 1) r.length
theorem Reps.at {M : List Addr} {H : Hp} : ∀ {vs : List V} {ds : List PyData} {i : Nat} {v : V}, Reps M H vs ds → vs[i]? = some v → ∃ d, ds[i]? = some d ∧ Rep M H v d
  | _, _, _, _, .nil, e => by simp at e
  | _, _, 0, _, .cons r _, e => by simp at e; exact ⟨_, rfl, e ▸ r⟩
  | _, _, i + 1, _, .cons _ r, e => Reps.at (i := i) r (by simpa using e)
theorem Reps.at' {M : List Addr} {H : Hp} : ∀ {vs : List V} {ds : List PyData} {i : Nat} {d : PyData}, Reps M H vs ds → ds[i]? = some d → ∃ v, vs[i]? = some v ∧ Rep M H v d
  | _, _, _, _, .nil, e => by simp at e
  | _, _, 0, _, .cons r _, e => by simp at e; exact ⟨_, rfl, e ▸ r⟩
  | _, _, i + 1, _, .cons _ r, e => Reps.at' (i := i) r (by simpa using e)
theorem Reps.append {M : List Addr} {H : Hp} : ∀ {vs ws : List V} {ds es : List PyData}, Reps M H vs ds → Reps M H ws es → Reps M H (vs ++ ws) (ds ++ es)
  | _, _, _, _, .nil, s => s
  | _, _, _, _, .cons r t, s => .cons r (Reps.append t s)
theorem Reps.take {M : List Addr} {H : Hp} : ∀ {vs : List V} {ds : List PyData} (n : Nat), Reps M H vs ds → Reps M H (vs.take n) (ds.take n)
  | _, _, 0, _ => .nil
  | _, _, _ + 1, .nil => .nil
  | _, _, n + 1, .cons r t => .cons r (Reps.take n t)
theorem Reps.drop {M : List Addr} {H : Hp} : ∀ {vs : List V} {ds : List PyData} (n : Nat), Reps M H vs ds → Reps M H (vs.drop n) (ds.drop n)
  | _, _, 0, r => r
  | _, _, _ + 1, .nil => .nil
  | _, _, n + 1, .cons _ t => Reps.drop n t
theorem Reps.reverse {M : List Addr} {H : Hp} : ∀ {vs : List V} {ds : List PyData}, Reps M H vs ds → Reps M H vs.reverse ds.reverse
  | _, _, .nil => .nil
  | _, _, .cons r t => by
    rw [List.reverse_cons, List.reverse_cons]
    exact t.reverse.append (.cons r .nil)
theorem Reps.strs {M : List Addr} {H : Hp} : ∀ {vs : List V} {ss : List Str}, Reps M H vs (ss.map PyData.str) → vs = ss.map V.str
  | _, [], .nil => rfl
  | _, _ :: _, .cons (.str _) r => congrArg (_ :: ·) r.strs
theorem Reps.of_strs {M : List Addr} {H : Hp} : ∀ ss : List Str, Reps M H (ss.map V.str) (ss.map PyData.str)
  | [] => .nil
  | s :: r => .cons (.str s) (Reps.of_strs r)
section
variable {X : Cx} {pins : List (Addr × Obj)} {σ : L2.St} {H : Hp} {s : Shared} {M : List Addr}
mutual
/-- what the state says of such a value -/
theorem Rep.reads (I : Inv X pins σ H s) : ∀ {v : V} {d : PyData} {u : Value}, Rep M H v d → RelV v u → ∃ as, Reads s.heap u d as ∧ sysModules ∉ as
  | _, _, _, .non, r => by cases r; exact ⟨_, .none, List.not_mem_nil⟩
  | _, _, _, .bl b, r => by cases r; exact ⟨_, .bool b, List.not_mem_nil⟩
  | _, _, _, .int i, r => by obtain ⟨t, rfl⟩ := r; exact ⟨_, .int i t, List.not_mem_nil⟩
  | _, _, _, .str x, r => by obtain ⟨t, rfl⟩ := r; exact ⟨_, .str x t, List.not_mem_nil⟩
  | _, _, _, .tup _ e q, r => by
    cases r
    obtain ⟨_, its, rv, o, h1, h2, n, h3⟩ := (show ObjOk X.prog X.w H s.heap _ (.tup _) from I.hok _ _ e)
    obtain ⟨as, z, no⟩ := Reps.reads I q rv
    exact ⟨_, .tuple h1 h2 h3 z, no⟩
  | _, _, _, .lst _ ne e q, r => by
    cases r
    obtain ⟨_, its, n, rv, h1⟩ := (show ObjOk X.prog X.w H s.heap _ (.lst _) from I.hok _ _ e)
    obtain ⟨as, z, no⟩ := Reps.reads I q rv
    exact ⟨_, .list h1 rfl rfl z, fun m => (List.mem_cons.mp m).elim (fun z => ne z.symm) no⟩
  | _, _, _, .emp _ e, r => by
    cases r
    obtain ⟨_, hd, vs, kv, o, es, ep, h1, ex, h2, _, h3, _⟩ := (show ObjOk X.prog X.w H s.heap _ (.dK []) from I.hok _ _ e)
    cases kv
    have h4 : es.toList = [] := by cases q : es.toList with
      | nil => rfl
      | cons x r => rw [q] at h3; cases h3
    refine ⟨_, .dict h1 ex.1 h2 (kvs := []) (by rw [h4]; exact .nil) (by rw [h4]; exact .nil), fun m => ?_⟩
    have m' : sysModules ∈ _ :: ([] : List Addr) := m
    rw [List.mem_singleton] at m'
    exact absurd hd (by rw [m']; simp)
theorem Reps.reads (I : Inv X pins σ H s) : ∀ {vs : List V} {ds : List PyData} {us : List Value}, Reps M H vs ds → Vals vs us → ∃ as, ReadsAll s.heap us ds as ∧ sysModules ∉ as
  | _, _, _, .nil, r => by cases r; exact ⟨_, .nil, List.not_mem_nil⟩
  | _, _, _, .cons q qs, r => by
    cases r with
    | cons r1 r2 =>
      obtain ⟨as, z, no⟩ := Rep.reads I q r1
      obtain ⟨bs, z2, no2⟩ := Reps.reads I qs r2
      exact ⟨_, .cons z z2, fun m => (List.mem_append.mp m).elim no no2⟩
end
end
end Gd
end

section
set_option maxRecDepth 100000
set_option maxHeartbeats 2000000
/-! Built-ins over such data: repr, in, <, isinstance, new lists. -/
namespace PySem.SeqAt
open PySem PySem.MeetsSeq
theorem gd_str_declines (b : Str) (u : Tok) (l : Addr) (es : Array DictEntry) (n : Nat) :
    Meets (Builtin.«str.__eq__» ⟨[.str b u, .ref l], []⟩) (fun _ R s => s.heap.get? l = some { cls := .type "dict", data := .dict es n } ∧ R (.ok (.ret .notImplemented)) s) :=
  .of_wp fun prog w A R s h => by obtain ⟨hp, g, d, tk, os⟩ := s; obtain ⟨hl, h⟩ := h; wp_walk using wpAny_loadPart' hl, wpAny_load hl; exact ⟨_, rfl, h⟩
theorem gd_str_dict {prog : Program} {w : World} {A : Around} {s : Shared} {l : Addr} {es : Array DictEntry} {n : Nat} (b : Str) (u : Tok) (ho : s.heap.get? l = some { cls := .type "dict", data := .dict es n }) (hu : A.units < cLine) : EqAt A s (.str b u) (.ref l) false := fun prog w E Q h => by
  have ty : s.TypeIs (.ref l) "dict" := ⟨_, ho, rfl⟩
  unfold eqBool
  refine wpAny_holding (wpAny_ite_split (fun z => nomatch (eq_of_beq z)) fun _ => wpAny_bind ?_)
  refine rc_eq_decline_or (k := false) (typeIs_str s b u) ty (by decide) F.sub_dict_str F.slot_str_eq F.slot_dict_eq_refl
    (fun _ hq => call_meets F.slot_str_eq (typeIs_str s b u) F.entry_str_eq (F.args_str_eq_2 _ _) (gd_str_declines b u l es n) ⟨ho, hq⟩)
    (fun _ hq => wpAny_call_entry F.slot_dict_eq_refl ty F.entry_dict_eq ?_ (F.args_dict_eq_2 _ _))
    (fun _ hq => wpAny_of_eq (rfl : isSame (.str b u) (.ref l) = pure false) hq) (.inr hu) (wpAny_truthy_bool h)
  show wpAny _ _ (Builtin.Dict.dictSlotArgs "__eq__" ⟨[.ref l, .str b u], []⟩ >>= _) _ _ s
  refine wpAny_bind ?_
  unfold Builtin.Dict.dictSlotArgs
  refine wpAny_bind (wpAny_notOrdered_dict ty ?_)
  show wpAny _ _ (pure (Value.ref l, Value.str b u)) _ _ s
  refine wpAny_pure ?_
  refine wpAny_bind (wpAny_isInstance (T := "str") (typeIs_str s b u) F.sub_str_dict ?_)
  simp only [Bool.not_false, if_true]
  refine wpAny_bind (wpAny_rule ?_)
  exact wpAny_pure ⟨_, rfl, hq⟩
end PySem.SeqAt
namespace Gd
open PySem PySem.Spec PyProof.Rows L2
section
variable {X : Cx} {k : Nat}
/-- repr(v) -/
def rRepr : List V → Hp → VK → Prop := fun xs H Q => ∃ M v d, xs = [v] ∧ Rep M H v d ∧ d.showable = true ∧ d.depth ≤ 100 ∧ d.shown.length ≤ sizeLine ∧ Q (.str d.shown) H
theorem call_repr (hg : X.A.guards = some []) (hr : Room k X.A) : CallR X (.builtin "repr") rRepr := by
  intro pins s σ H xs us Q I r h
  obtain ⟨M, v, d, rfl, rp, sh, dp, sz, q⟩ := h
  obtain ⟨u, rfl, ru⟩ := vals1 r
  have un := hr.un
  cases rp with
  | non => cases ru; exact PySem.P.repr_of_none ⟨.str _, H, I.tok _, ⟨_, rfl⟩, q⟩
  | bl b => cases ru; exact PySem.P.repr_of_bool ⟨.str _, H, I.tok _, ⟨_, rfl⟩, q⟩
  | int i => obtain ⟨t, rfl⟩ := ru; exact PySem.P.repr_of_int (by simpa [PyData.showable] using sh) ⟨.str _, H, I.tok _, ⟨_, rfl⟩, q⟩
  | str x => obtain ⟨t, rfl⟩ := ru; exact PySem.P.repr_of_str ⟨.str _, H, I.tok _, ⟨_, rfl⟩, q⟩ (by simpa only [PyData.shown] using sz)
  | tup n e z =>
    obtain ⟨as, rd, no⟩ := Rep.reads I (.tup n e z) ru
    cases ru
    exact PySem.repr_of_reads' rd sh (fun _ => no) hg (by omega) (fun _ _ e => e) (fun h' u tk kp => ⟨.str _, H, I.kept kp, ⟨_, rfl⟩, q⟩) sz
  | lst n ne e z =>
    obtain ⟨as, rd, no⟩ := Rep.reads I (.lst n ne e z) ru
    cases ru
    exact PySem.repr_of_reads' rd sh (fun _ => no) hg (by omega) (fun _ _ e => e) (fun h' u tk kp => ⟨.str _, H, I.kept kp, ⟨_, rfl⟩, q⟩) sz
  | emp n e =>
    obtain ⟨as, rd, no⟩ := Rep.reads I (.emp (M := M) n e) ru
    cases ru
    exact PySem.repr_of_reads' rd sh (fun _ => no) hg (by omega) (fun _ _ e => e) (fun h' u tk kp => ⟨.str _, H, I.kept kp, ⟨_, rfl⟩, q⟩) sz
/-- x in t, t a tuple of texts, x anything -/
def inD (d : PyData) (ss : List Str) : Bool := match d with
  | .str x => decide (x ∈ ss)
  | _ => false
def rInT : R2 := fun x y H Q => ∃ M d a ss, Rep M H x d ∧ y = .ref a ∧ H a = some (.tup (ss.map V.str)) ∧ Q (.bl (inD d ss)) H
theorem vals_strs : ∀ {ss : List Str} {us : List Value}, Vals (ss.map V.str) us → ∀ y ∈ us, ∃ z ∈ ss, ∃ t, y = .str z t
  | [], _, .nil, _, h => nomatch h
  | s :: r, _, .cons ⟨t, e⟩ q, y, h => by
    rcases List.mem_cons.mp h with rfl | h
    · exact ⟨s, List.mem_cons_self, t, e⟩
    · obtain ⟨z, hz, t, e⟩ := vals_strs q y h
      exact ⟨z, List.mem_cons_of_mem _ hz, t, e⟩
theorem vals_any {x : Str} : ∀ {ss : List Str} {us : List Value}, Vals (ss.map V.str) us → (us.any fun u => match u with | .str z _ => decide (z = x) | _ => false) = decide (x ∈ ss)
  | [], _, .nil => by simp
  | s :: r, _, .cons ⟨t, e⟩ q => by
    subst e
    rw [List.any_cons, vals_any q]
    by_cases h : s = x
    · subst h; simp
    · have h' : ¬ x = s := fun z => h z.symm
      simp [h, h']
theorem op_inT (hr : Room k X.A) : OpR X (compareOp .In) rInT := by
  intro pins s σ H x y v u Q I rx ry h
  obtain ⟨M, d, a, ss, rp, rfl, ha, q⟩ := h
  cases ry
  obtain ⟨_, its, rv, ht⟩ := (show ObjOk X.prog X.w H s.heap a (.tup (ss.map V.str)) from I.hok _ _ ha)
  have un := hr.un
  have un1 : X.A.in1.units = X.A.units + 1 := rfl
  have fin : ∀ e : Value → Bool, its.any e = inD d ss → (∀ y, y ∈ its.toArray → SeqAt.EqAt X.A.in1 s y v (e y)) → wpAny (model X.prog X.w) X.A (compareOp .In v (.ref a)) (EP X pins σ Q) X.xe s := fun e he hy =>
    SeqAt.in_tupleAt e ht hy ⟨.bl _, H, I, rfl, by rw [List.any_toArray, he]; exact q⟩
  have no : (its.any fun _ => false) = false := by simp
  have txt : ∀ y ∈ its.toArray, ∃ z t, y = .str z t := fun y hy => let ⟨z, _, t, e⟩ := vals_strs rv y (by simpa using hy); ⟨z, t, e⟩
  cases rp with
  | non => cases rx; exact fin (fun _ => false) no fun y hy => by obtain ⟨z, t, rfl⟩ := txt y hy; exact SeqAt.EqAt.str_none z t
  | bl b => cases rx; exact fin (fun _ => false) no fun y hy => by obtain ⟨z, t, rfl⟩ := txt y hy; exact SeqAt.EqAt.str_bool z t b
  | int i => obtain ⟨t2, rfl⟩ := rx; exact fin (fun _ => false) no fun y hy => by obtain ⟨z, t, rfl⟩ := txt y hy; exact SeqAt.EqAt.str_int z t i t2
  | str x =>
    obtain ⟨t2, rfl⟩ := rx
    refine fin (fun u => match u with | .str z _ => decide (z = x) | _ => false) (vals_any rv) fun y hy => ?_
    obtain ⟨z, t, rfl⟩ := txt y hy
    have e := SeqAt.EqAt.str_str (A := X.A.in1) (s := s) z t x t2
    have e2 : (z == x) = decide (z = x) := by by_cases c : z = x <;> simp [c]
    rw [e2] at e
    exact e
  | tup n e z =>
    cases rx
    obtain ⟨_, i2, _, h2⟩ := (show ObjOk X.prog X.w H s.heap _ (.tup _) from I.hok _ _ e)
    exact fin (fun _ => false) no fun y hy => by obtain ⟨z, t, rfl⟩ := txt y hy; exact SeqAt.EqAt.str_tuple z t h2 (by omega)
  | lst n ne e z =>
    cases rx
    obtain ⟨_, i2, m, _, h2⟩ := (show ObjOk X.prog X.w H s.heap _ (.lst _) from I.hok _ _ e)
    exact fin (fun _ => false) no fun y hy => by obtain ⟨z, t, rfl⟩ := txt y hy; exact SeqAt.EqAt.str_list z t ⟨_, h2, rfl, _, rfl⟩ (by omega)
  | emp n e =>
    cases rx
    obtain ⟨_, hd, vs, kv, o, es, ep, h1, ex, h2, _⟩ := (show ObjOk X.prog X.w H s.heap _ (.dK []) from I.hok _ _ e)
    obtain ⟨oc, od, dt, sl⟩ := o
    obtain ⟨e1, e2, e3⟩ := ex
    simp only at e1 e2 e3 h2
    subst e1 e2 e3 h2
    exact fin (fun _ => false) no fun y hy => by obtain ⟨z, t, rfl⟩ := txt y hy; exact SeqAt.gd_str_dict (prog := X.prog) (w := X.w) z t h1 (by omega)
end
end Gd
end

section
set_option maxRecDepth 100000
set_option maxHeartbeats 2000000
/-! Further built-ins: <, isinstance, new lists, great powers. -/
namespace Gd
open PySem PySem.Spec PyProof.Rows L2
section
variable {X : Cx} {k : Nat}
/-- d < e, data of one shape -/
def rLtD : R2 := fun x y H Q => ∃ M d e, Rep M H x d ∧ Rep M H y e ∧ W.alike d e = true ∧ d ≠ .none ∧ d.depth ≤ 100 ∧ Q (.bl (W.dataLt d e)) H
theorem op_ltD (hr : Room k X.A) : OpR X (compareOp .Lt) rLtD := by
  intro pins s σ H x y v u Q I rx ry h
  obtain ⟨M, d, e, rd, re, al, nn, dp, q⟩ := h
  obtain ⟨as, z, _⟩ := Rep.reads I rd rx
  obtain ⟨bs, z2, _⟩ := Rep.reads I re ry
  have un := hr.un
  show wpAny _ _ (richCompare .Lt v u) _ _ s
  exact W.rcLt_alike d e X.A s v u as bs z z2 al nn (by omega) X.prog X.w X.xe _ ⟨.bl _, H, I, rfl, q⟩
/-- the class's name -/
def tyN : PyData → String
  | .none => "NoneType"
  | .bool _ => "bool"
  | .int _ => "int"
  | .str _ => "str"
  | .list _ => "list"
  | .tuple _ => "tuple"
  | .dict _ => "dict"
theorem Rep.ty {M : List Addr} {H : Hp} {K : W.Frag} {v : V} {d : PyData} (r : Rep M H v d) : TyX K H v (.type (tyN d)) := by
  cases r with
  | non => exact .base .non
  | bl b => exact .base (.bl b)
  | int i => exact .base (.int i)
  | str x => exact .base (.str x)
  | tup n e z => exact .base (.tup e)
  | lst n ne e z => exact .base (.lst e)
  | emp n e => exact .base (.dK e)
def isTup : PyData → Bool
  | .tuple _ => true
  | _ => false
def isStr : PyData → Bool
  | .str _ => true
  | _ => false
def isInt : PyData → Bool
  | .int _ => true
  | .bool _ => true
  | _ => false
theorem kit_tup {K : W.Frag} : ∀ d : PyData, W.kitOne K (.type (tyN d)) (.type "tuple") = some (isTup d)
  | .none => kit_ty (show kitB "NoneType" "tuple" = some false by decide +kernel)
  | .bool _ => kit_ty (show kitB "bool" "tuple" = some false by decide +kernel)
  | .int _ => kit_ty (show kitB "int" "tuple" = some false by decide +kernel)
  | .str _ => kit_ty (show kitB "str" "tuple" = some false by decide +kernel)
  | .list _ => kit_ty (show kitB "list" "tuple" = some false by decide +kernel)
  | .tuple _ => kit_ty (show kitB "tuple" "tuple" = some true by decide +kernel)
  | .dict _ => kit_ty (show kitB "dict" "tuple" = some false by decide +kernel)
theorem kit_str {K : W.Frag} : ∀ d : PyData, W.kitOne K (.type (tyN d)) (.type "str") = some (isStr d)
  | .none => kit_ty (show kitB "NoneType" "str" = some false by decide +kernel)
  | .bool _ => kit_ty (show kitB "bool" "str" = some false by decide +kernel)
  | .int _ => kit_ty (show kitB "int" "str" = some false by decide +kernel)
  | .str _ => kit_ty (show kitB "str" "str" = some true by decide +kernel)
  | .list _ => kit_ty (show kitB "list" "str" = some false by decide +kernel)
  | .tuple _ => kit_ty (show kitB "tuple" "str" = some false by decide +kernel)
  | .dict _ => kit_ty (show kitB "dict" "str" = some false by decide +kernel)
theorem kit_int {K : W.Frag} : ∀ d : PyData, W.kitOne K (.type (tyN d)) (.type "int") = some (isInt d)
  | .none => kit_ty (show kitB "NoneType" "int" = some false by decide +kernel)
  | .bool _ => kit_ty (show kitB "bool" "int" = some true by decide +kernel)
  | .int _ => kit_ty (show kitB "int" "int" = some true by decide +kernel)
  | .str _ => kit_ty (show kitB "str" "int" = some false by decide +kernel)
  | .list _ => kit_ty (show kitB "list" "int" = some false by decide +kernel)
  | .tuple _ => kit_ty (show kitB "tuple" "int" = some false by decide +kernel)
  | .dict _ => kit_ty (show kitB "dict" "int" = some false by decide +kernel)
/-- isinstance(x, T), x any data -/
def rIs (f : PyData → Bool) (T : String) : List V → Hp → VK → Prop := fun xs H Q => ∃ M v d, xs = [v, .ty T] ∧ Rep M H v d ∧ Q (.bl (f d)) H
theorem call_isTup : CallR X (.builtin "isinstance") (rIs isTup "tuple") := fun pins s σ H xs us Q I r h =>
  let ⟨_, v, d, e, rp, q⟩ := h; call_isi pins s σ H xs us Q I r ⟨v, _, _, _, _, e, .ty _, rp.ty, kit_tup d, q⟩
theorem call_isStr : CallR X (.builtin "isinstance") (rIs isStr "str") := fun pins s σ H xs us Q I r h =>
  let ⟨_, v, d, e, rp, q⟩ := h; call_isi pins s σ H xs us Q I r ⟨v, _, _, _, _, e, .ty _, rp.ty, kit_str d, q⟩
theorem call_isInt : CallR X (.builtin "isinstance") (rIs isInt "int") := fun pins s σ H xs us Q I r h =>
  let ⟨_, v, d, e, rp, q⟩ := h; call_isi pins s σ H xs us Q I r ⟨v, _, _, _, _, e, .ty _, rp.ty, kit_int d, q⟩
/-- a new list that is no module's table -/
def tLstS (t : TA) : TE := fun σ H Q => t σ H fun xs H1 => xs.length ≤ sizeLine ∧ ∀ p, H1 p = none → p ≠ sysModules → Q (.ref p) (upd H1 p (.lst xs))
theorem pe_lstS {es : List Expr} {t : TA} {pos : Pos} (h : PA X es t) : PE X (.List es pos) (tLstS t) := by
  refine ⟨fun pins s σ H Q I hq => wpAny_List_spliced (thn (h.run pos pins s σ H _ I hq) fun us s1 ⟨xs, H1, I1, r, z, q⟩ => ⟨by rw [← r.length]; exact z, ?_⟩)⟩
  have fr := I1.hok.fresh (Nat.le_refl _)
  exact ⟨.ref _, _, I1.laid (o := .lst xs) (t' := s1.toks) (fun _ _ e => Heap.get?_push_of_some _ e) (Nat.le_refl _) ⟨z, us, 0, r, Heap.get?_push_size _ rfl⟩, rfl, q _ fr (Nat.ne_of_gt I1.big)⟩
/-- list(t), t a tuple -/
def rListT : List V → Hp → VK → Prop := fun xs H Q => ∃ a ys, xs = [.ref a] ∧ H a = some (.tup ys) ∧ ∀ l, H l = none → l ≠ sysModules → Q (.ref l) (upd H l (.lst ys))
theorem call_listT : CallR X (.type "list") rListT := by
  intro pins s σ H xs us Q I r h
  obtain ⟨a, ys, rfl, ha, q⟩ := h
  obtain ⟨u, rfl, rx⟩ := vals1 r
  cases rx
  obtain ⟨sz, its, rv, o, ho, hc, n, hd⟩ := (show ObjOk X.prog X.w H s.heap a (.tup ys) from I.hok _ _ ha)
  have many := rv.length
  refine call_list_seq a (.inr rfl) ho hc hd (fun h' c' kp e => ?_) (by simp only [List.size_toArray]; omega)
  exact ⟨.ref _, _, I.laid (t' := s.toks) kp (Nat.le_refl _) (show ObjOk X.prog X.w _ h' _ (.lst ys) from ⟨sz, its, c', rv, e⟩), rfl, q _ (I.hok.fresh (Nat.le_refl _)) (Nat.ne_of_gt I.big)⟩
/-- a ** b of great numbers -/
def CPowW (i j : Int) : Prop := 0 ≤ j ∧ (Builtin.Int.intBits i : Int) * j ≤ 2 ^ 27
theorem op_powW : OpR X (binaryOp .Pow) (rI CPowW fun i j => .int (i ^ j.toNat)) := opI fun _ _ _ _ _ _ _ hc q => pow_int hc.1 hc.2 q
end
end Gd
end

section
set_option maxRecDepth 100000
set_option maxHeartbeats 2000000
/-! A def by its name: what it promises whoever calls it. -/
namespace Gd
open PySem PySem.Spec PyProof.Rows L2
/-- the module's name x holds a def that keeps sp -/
def Callee (P : Program) (w : World) (K : PySem.W.Frag) (mg : Str → Option Value) (base : Heap) (CX : CXT) (k : Nat) (x : Str) (ps : List Str) (sp : Sp) : Prop :=
  ∃ (f : Addr) (fd : FuncData), mg x = some (.ref f) ∧ PySem.W.keepIn K (.ref f) = true ∧ Binds K fd ps [] ∧ FnG P w K mg base CX k f fd ps sp
/-- the module's name x holds the def st of the text -/
def Defd (K : PySem.W.Frag) (mg : Str → Option Value) (x : Str) (st : Stmt) : Prop := ∃ (f : Addr) (fd : FuncData), mg x = some (.ref f) ∧ Fun K x x st f fd
section
variable {P : Program} {w : World} {K : PySem.W.Frag} {mg : Str → Option Value} {base : Heap} {CX : CXT} {j k : Nat} {x : Str} {N ps : List Str} {sp sp' : Sp} {st : Stmt}
theorem Callee.mono (C : Callee P w K mg base CX j x ps sp) (h : j ≤ k) : Callee P w K mg base CX k x ps sp := let ⟨f, fd, a, b, c, F⟩ := C; ⟨f, fd, a, b, c, F.mono h⟩
theorem Callee.imp (C : Callee P w K mg base CX k x ps sp) (h : ∀ vs H Q E, sp' vs H Q E → sp vs H Q E) : Callee P w K mg base CX k x ps sp' := let ⟨f, fd, a, b, c, F⟩ := C; ⟨f, fd, a, b, c, F.imp h⟩
theorem Defd.ok (D : Defd K mg x st) (S : FnScope N ps (defScope st)) (hb : ∀ (kV doc pm : Value) (an : Option Addr) (cdv ct : Value) (us : List Value), us.length = ps.length →
      bindArgs (PySem.W.fnOf x x (defArgs st) (defBody st) (defScope st) .none kV doc pm an cdv ct) ⟨us, []⟩ = pure (ps.zip us)) (len : ∀ vs H Q E, sp vs H Q E → vs.length = ps.length)
    (hbody : ∀ (f : Addr) (cdv : Value) (A : Around) (outer : List Env) (s : Shared) (H : Hp) (vs : List V) (Q : VK) (E : XK), A.guards = some [] → Room k (A.deeper (envOfC x (defScope st) s.heap.objs.size f cdv)) → sp vs H Q E →
      ∃ t, PSs (cxOf CX0 P w K mg base N x (defScope st) f cdv A outer s H E).nox (defBody st) t ∧ t { nx := fun _ H' => Q .non H', rt := Q } (start N vs) H) : Callee P w K mg base CX0 (k + 1) x ps sp :=
  let ⟨f, fd, hm, F⟩ := D
  ⟨f, fd, hm, F.kp, F.binds hb, okG F S len (hbody f)⟩
/-- a def that may raise -/
theorem Defd.okX (D : Defd K mg x st) (S : FnScope N ps (defScope st)) (hb : ∀ (kV doc pm : Value) (an : Option Addr) (cdv ct : Value) (us : List Value), us.length = ps.length →
      bindArgs (PySem.W.fnOf x x (defArgs st) (defBody st) (defScope st) .none kV doc pm an cdv ct) ⟨us, []⟩ = pure (ps.zip us)) (len : ∀ vs H Q E, sp vs H Q E → vs.length = ps.length)
    (hbody : ∀ (f : Addr) (cdv : Value) (A : Around) (outer : List Env) (s : Shared) (H : Hp) (vs : List V) (Q : VK) (E : XK), A.guards = some [] → Room k (A.deeper (envOfC x (defScope st) s.heap.objs.size f cdv)) → sp vs H Q E →
      ∃ t, PSs (cxOf (L2.CX P w) P w K mg base N x (defScope st) f cdv A outer s H E) (defBody st) t ∧ t { nx := fun _ H' => Q .non H', rt := Q } (start N vs) H) : Callee P w K mg base (L2.CX P w) (k + 1) x ps sp :=
  let ⟨f, fd, hm, F⟩ := D
  ⟨f, fd, hm, F.kp, F.binds hb, okGX F S len (hbody f)⟩
end
section
variable {X : Cx} {CX : CXT} {k : Nat} {ps : List Str} {sp : Sp} {E : XK} {x : Str} {p pos : Pos} {e : Expr} {es : List Expr} {t : TA}
/-- f(e, ..) -/
theorem pown (C : Callee X.prog X.w X.K X.mg X.base CX k x ps sp) (hgu : X.A.guards = some []) (hr : Room k X.A) (hg : Gl X x) (hx : Passes CX X E) (ha : PA X (e :: es) t) (hdb : (x == ("__debug__" : Str)) = false := by decide)
    (he : starEach (e :: es) X.env = (false, eval e X.env) :: starEach es X.env := by rfl) (hpl : (backTo pos (starEach es X.env)).any (·.1) = false := by rfl) : PE X (.Call (.Name x p) (e :: es) [] pos) (tCall sp [] E t) :=
  let ⟨_, _, hm, hk, hb, F⟩ := C
  pcall F hgu hr hg hm hk hb .nil hx ha hdb he hpl
end
end Gd
end

section
set_option maxRecDepth 100000
set_option maxHeartbeats 2000000
/-! Comprehensions: the new list, item by item; all(..) over them. -/
namespace Gd
open PySem PySem.Spec PyProof.Rows L2 RZ
theorem next_i {D : Ends} {σ : L2.St} {H : Hp} (h : D.nx σ H) : tNext D σ H := h
theorem ret_i {te : TE} {D : Ends} {σ : L2.St} {H : Hp} (h : te σ H D.rt) : tRet te D σ H := h
section
variable {J : It} {n : Nat} {G : Hp → Prop} {Y : Nat → Hp → V → Hp → Prop} {g : TG} {te : TE} {vs : List Nat} {σ : L2.St} {H1 : Hp} {D : Addr} {Qd : Hp → Prop}
theorem lc_by (w : Walk J n G Y) (hn : n ≤ sizeLine) (Pv : Nat → List V → Hp → Prop) (h0 : Pv 0 [] (upd H1 D (.lst []))) (hG : ∀ i acc H, i ≤ n → Pv i acc H → G H) (hl : ∀ i acc H, Pv i acc H → acc.length = i ∧ H D = some (.lst acc))
    (hs : ∀ i acc x H H', i < n → Pv i acc H → Y i H x H' → ∀ Kt : V → Hp → Prop, (∀ y H4, H4 D = some (.lst acc) → Pv (i + 1) (acc ++ [y]) (upd H4 D (.lst (acc ++ [y]))) → Kt y H4) → g x (wipe σ vs) H' fun σ2 H2 => wipe σ2 vs = wipe σ vs ∧ te σ2 H2 Kt)
    (hd : ∀ acc H, Pv n acc H → Qd H) :
    ∃ W : Nat → Nat → Hp → Prop, (∃ m, W 0 m (upd H1 D (.lst []))) ∧ ∀ i m H, W i m H →
      (J.stop i H ∧ Qd H) ∨ (J.go i H ∧ ∃ Nx : Hp → Prop, (∀ H', Nx H' → ∃ m', m' < m ∧ W (i + 1) m' H') ∧ ∀ x H', J.yld i H x H' → g x (wipe σ vs) H' fun σ2 H2 => wipe σ2 vs = wipe σ vs ∧ tYes σ2 H2 fun b H3 =>
        if b = true then te σ2 H3 fun y H4 => ∃ acc, H4 D = some (.lst acc) ∧ acc.length < sizeLine ∧ Nx (upd H4 D (.lst (acc ++ [y]))) else Nx H3) := by
  refine lc_it w (fun i H => ∃ acc, Pv i acc H) ⟨[], h0⟩ (fun i H hi ⟨acc, p⟩ => hG i acc H hi p) (fun i x H H' hi ⟨acc, p⟩ y => ?_) fun H ⟨acc, p⟩ => hd acc H p
  exact hs i acc x H H' hi p y (fun y H4 => ∃ acc, H4 D = some (.lst acc) ∧ acc.length < sizeLine ∧ ∃ acc', Pv (i + 1) acc' (upd H4 D (.lst (acc ++ [y])))) fun y H4 e q => ⟨acc, e, by rw [(hl i acc H p).1]; omega, _, q⟩
/-- items that are booleans, found without a change -/
theorem lc_bools (w : Walk J n G Y) (hn : n ≤ sizeLine) (hD : H1 D = none) (b : Nat → Bool) (hG : ∀ H, Kp [] H1 H → G H)
    (hs : ∀ i x H H', i < n → Kp [] H1 H → Y i H x H' → ∀ Kt : V → Hp → Prop, (∀ H4, Kp [] H H4 → Kt (.bl (b i)) H4) → g x (wipe σ vs) H' fun σ2 H2 => wipe σ2 vs = wipe σ vs ∧ te σ2 H2 Kt)
    (hd : ∀ H, Kp [] H1 H → H D = some (.lst ((List.range n).map fun i => V.bl (b i))) → Qd H) :
    ∃ W : Nat → Nat → Hp → Prop, (∃ m, W 0 m (upd H1 D (.lst []))) ∧ ∀ i m H, W i m H →
      (J.stop i H ∧ Qd H) ∨ (J.go i H ∧ ∃ Nx : Hp → Prop, (∀ H', Nx H' → ∃ m', m' < m ∧ W (i + 1) m' H') ∧ ∀ x H', J.yld i H x H' → g x (wipe σ vs) H' fun σ2 H2 => wipe σ2 vs = wipe σ vs ∧ tYes σ2 H2 fun b H3 =>
        if b = true then te σ2 H3 fun y H4 => ∃ acc, H4 D = some (.lst acc) ∧ acc.length < sizeLine ∧ Nx (upd H4 D (.lst (acc ++ [y]))) else Nx H3) := by
  refine lc_by w hn (fun i acc H => Kp [] H1 H ∧ acc = (List.range i).map (fun i => V.bl (b i)) ∧ H D = some (.lst acc)) ⟨Kp.new hD, rfl, upd_same⟩ (fun i acc H _ p => hG H p.1) (fun i acc H p => ⟨by rw [p.2.1]; simp, p.2.2⟩) (fun i acc x H H' hi p y Kt q => ?_) fun acc H p => hd H p.1 (p.2.1 ▸ p.2.2)
  obtain ⟨k, e, ed⟩ := p
  refine hs i x H H' hi k y Kt fun H4 k4 => ?_
  have e4 := k4 D _ List.not_mem_nil ed
  refine q _ H4 e4 ⟨fun c o nc ec => ?_, by rw [e, List.range_succ, List.map_append]; rfl, upd_same⟩
  rw [upd_ne (ne_of_none ec hD)]
  exact k4 c o nc (k c o nc ec)
end
section
variable {J : It} {n : Nat} {G : Hp → Prop} {Y : Nat → Hp → V → Hp → Prop} {g : TG} {te : TE} {vs : List Nat} {σ : L2.St} {H1 : Hp} {D : Addr} {Qd : Hp → Prop}
/-- items of a kind, found without a change -/
theorem lc_pure (w : Walk J n G Y) (hn : n ≤ sizeLine) (hD : H1 D = none) (R : V → Prop) (hG : ∀ H, Kp [] H1 H → G H)
    (hs : ∀ i x H H', i < n → Kp [] H1 H → Y i H x H' → ∀ Kt : V → Hp → Prop, (∀ y H4, Kp [] H H4 → R y → Kt y H4) → g x (wipe σ vs) H' fun σ2 H2 => wipe σ2 vs = wipe σ vs ∧ te σ2 H2 Kt)
    (hd : ∀ acc H, Kp [] H1 H → H D = some (.lst acc) → acc.length = n → (∀ y ∈ acc, R y) → Qd H) :
    ∃ W : Nat → Nat → Hp → Prop, (∃ m, W 0 m (upd H1 D (.lst []))) ∧ ∀ i m H, W i m H →
      (J.stop i H ∧ Qd H) ∨ (J.go i H ∧ ∃ Nx : Hp → Prop, (∀ H', Nx H' → ∃ m', m' < m ∧ W (i + 1) m' H') ∧ ∀ x H', J.yld i H x H' → g x (wipe σ vs) H' fun σ2 H2 => wipe σ2 vs = wipe σ vs ∧ tYes σ2 H2 fun b H3 =>
        if b = true then te σ2 H3 fun y H4 => ∃ acc, H4 D = some (.lst acc) ∧ acc.length < sizeLine ∧ Nx (upd H4 D (.lst (acc ++ [y]))) else Nx H3) := by
  refine lc_by w hn (fun i acc H => Kp [] H1 H ∧ H D = some (.lst acc) ∧ acc.length = i ∧ ∀ y ∈ acc, R y) ⟨Kp.new hD, upd_same, rfl, nofun⟩ (fun i acc H _ p => hG H p.1) (fun i acc H p => ⟨p.2.2.1, p.2.1⟩) (fun i acc x H H' hi p y Kt q => ?_) fun acc H p => hd acc H p.1 p.2.1 p.2.2.1 p.2.2.2
  obtain ⟨k, ed, el, hr⟩ := p
  refine hs i x H H' hi k y Kt fun y H4 k4 ry => ?_
  have e4 := k4 D _ List.not_mem_nil ed
  refine q _ H4 e4 ⟨fun c o nc ec => ?_, upd_same, by simp [el], fun z hz => ?_⟩
  · rw [upd_ne (ne_of_none ec hD)]
    exact k4 c o nc (k c o nc ec)
  · rcases List.mem_append.mp hz with hz | hz
    · exact hr z hz
    · rw [List.mem_singleton.mp hz]; exact ry
end
theorem all_range {α : Type} (ds : List α) (f : α → Bool) (b : Nat → Bool) (h : ∀ i d, ds[i]? = some d → b i = f d) : ((List.range ds.length).map b).all id = ds.all f := by
  induction ds generalizing b with
  | nil => rfl
  | cons d r ih =>
    rw [List.length_cons, List.range_succ_eq_map, List.map_cons, List.all_cons, List.map_map, List.all_cons]
    rw [ih (b ∘ Nat.succ) fun i e q => h (i + 1) e (by simpa using q), show id (b 0) = f d from h 0 d rfl]
theorem map_bl (n : Nat) (b : Nat → Bool) : ((List.range n).map fun i => V.bl (b i)) = ((List.range n).map b).map V.bl := by rw [List.map_map]; rfl
section
variable {K : PySem.W.Frag} {te0 te : TE} {g : TG} {vs : List Nat} {σ : L2.St} {H : Hp} {Q : VK}
/-- all([.. for x in t]) -/
theorem all_tup {a : Addr} {xs : List V} (b : Nat → Bool) (h0 : ∀ R : V → Hp → Prop, R (.ref a) H → te0 σ H R) (ha : H a = some (.tup xs)) (hn : xs.length ≤ sizeLine)
    (hs : ∀ (m : Nat) x H', xs[m]? = some x → Kp [] H H' → ∀ Kt : V → Hp → Prop, (∀ H3, Kp [] H' H3 → Kt (.bl (b m)) H3) → g x (wipe σ vs) H' fun σ2 H2 => wipe σ2 vs = wipe σ vs ∧ te σ2 H2 Kt)
    (q : ∀ H', Kp [] H H' → Q (.bl (((List.range xs.length).map b).all id)) H') : tCB (rAll K) (tCons (tLc (iTup K te0) g tYes te vs) tNil) σ H Q := by
  refine h0 _ ⟨a, rfl, ⟨xs, .inl (.inl ha)⟩, fun D hD => ?_⟩
  refine lc_bools (walk_tup (K := K) (a := a) (xs := xs)) hn hD b (fun H' k => .inl (.inl (k a _ List.not_mem_nil ha))) (fun i x H' H2 hi k y Kt q => ?_) fun H' k e => ?_
  · obtain ⟨rfl, ex⟩ := y
    exact hs i x _ ex k Kt q
  · exact ⟨D, _, rfl, .inl (.inl (map_bl _ _ ▸ e)), q H' k⟩
/-- all([.. for c in text]) -/
theorem all_str {z : Str} (b : Nat → Bool) (h0 : ∀ R : V → Hp → Prop, R (.str z) H → te0 σ H R) (hn : z.cps.size ≤ sizeLine)
    (hs : ∀ (m : Nat) c H', z.cps[m]? = some c → Kp [] H H' → ∀ Kt : V → Hp → Prop, (∀ H3, Kp [] H' H3 → Kt (.bl (b m)) H3) → g (.str ⟨#[c]⟩) (wipe σ vs) H' fun σ2 H2 => wipe σ2 vs = wipe σ vs ∧ te σ2 H2 Kt)
    (q : ∀ H', Kp [] H H' → Q (.bl (((List.range z.cps.size).map b).all id)) H') : tCB (rAll K) (tCons (tLc (iStr te0) g tYes te vs) tNil) σ H Q := by
  refine h0 _ ⟨z, rfl, fun D hD => ?_⟩
  refine lc_bools (walk_str (z := z)) hn hD b (fun _ _ => trivial) (fun i x H' H2 hi k y Kt q => ?_) fun H' k e => ?_
  · obtain ⟨rfl, c, ec, rfl⟩ := y
    exact hs i c _ ec k Kt q
  · exact ⟨D, _, rfl, .inl (.inl (map_bl _ _ ▸ e)), q H' k⟩
theorem walk_zipT {a b : Addr} {xs ys : List V} {n : Nat} (hn : n = min xs.length ys.length) : Walk (ItzT K a b) n (fun H => SqT K H a xs ∧ SqT K H b ys) (YPair (fun i => xs[i]?) (fun i => ys[i]?)) := by
  subst hn
  refine ⟨fun i _ hi q => ?_, fun _ q => ⟨xs, ys, q.1, q.2, by omega⟩, fun i H v H' _ q y => ?_⟩
  · have h1 : i < xs.length := by omega
    have h2 : i < ys.length := by omega
    exact ⟨xs, ys, xs[i], ys[i], q.1, q.2, by simp [h1], by simp [h2]⟩
  · obtain ⟨T, x, z, h1, h2, h3, h4, h5⟩ := y
    exact ⟨T, x, z, h1, h2, h3, h4 xs q.1, h5 ys q.2⟩
/-- all([.. for x, y in zip(t, u)]) -/
theorem all_zip {ta : TA} {a : Addr} {xs ys : List V} (b : Nat → Bool) (h0 : ∀ R : List V → Hp → Prop, (∀ a2 H1, Kp [] H H1 → H1 a = some (.tup xs) → H1 a2 = some (.tup ys) → R [.ref a, .ref a2] H1) → ta σ H R) (hn : xs.length ≤ sizeLine)
    (hs : ∀ (m : Nat) x y T H', xs[m]? = some x → ys[m]? = some y → Kp [] H H' → H' T = some (.tup [x, y]) → ∀ Kt : V → Hp → Prop, (∀ H3, Kp [] H' H3 → Kt (.bl (b m)) H3) → g (.ref T) (wipe σ vs) H' fun σ2 H2 => wipe σ2 vs = wipe σ vs ∧ te σ2 H2 Kt)
    (q : ∀ H', Kp [] H H' → Q (.bl (((List.range (min xs.length ys.length)).map b).all id)) H') : tCB (rAll K) (tCons (tLc (iZipA K ta) g tYes te vs) tNil) σ H Q := by
  refine h0 _ fun a2 H1 k1 ha hb => ⟨a, a2, xs, ys, rfl, .inr ⟨.inl (.inl ha), .inl (.inl hb), fun D hD => ?_⟩⟩
  refine lc_bools (walk_zipT (K := K) (a := a) (b := a2) (xs := xs) (ys := ys) rfl) (by omega) hD b (fun H' k => ⟨.inl (.inl (k a _ List.not_mem_nil ha)), .inl (.inl (k a2 _ List.not_mem_nil hb))⟩) (fun i x H' H2 hi k y Kt q => ?_) fun H' k e => ?_
  · obtain ⟨T, x, y, rfl, nT, rfl, ex, ey⟩ := y
    exact hs i x y T _ ex ey ((k1.trans k).trans (Kp.new nT)) upd_same Kt fun H3 k3 => q H3 ((Kp.new nT).trans k3)
  · exact ⟨D, _, rfl, .inl (.inl (map_bl _ _ ▸ e)), q H' (k1.trans k)⟩
theorem cut1 (xs : List V) : cutV xs (some 1) none = xs.drop 1 := by
  unfold cutV
  rw [show HT.sIx xs.length 0 (some 1) = min 1 xs.length from HT.sIx_nat _ _ 1, HT.sIx_none]
  cases xs with
  | nil => rfl
  | cons x r =>
    rw [show min 1 (x :: r).length = 1 by rw [List.length_cons]; omega]
    exact List.take_of_length_le (by simp)
end
end Gd
end

section
set_option maxRecDepth 100000
set_option maxHeartbeats 2000000
/-! How large data are: small data can be shown. -/
namespace Gd
open PySem PySem.Spec PyProof.Rows L2
mutual
/-- more than the signs that it is written with, a twelfth -/
def wt : PyData → Nat
  | .none | .bool _ => 1
  | .int _ => 40
  | .str x => x.length + 1
  | .list xs | .tuple xs => wts xs + 1
  | .dict kvs => 1
def wts : List PyData → Nat
  | [] => 0
  | x :: xs => wt x + 1 + wts xs
end
mutual
/-- whole numbers up to B, plain texts, no dict but the empty one -/
def good (B : Nat) : PyData → Prop
  | .none | .bool _ => True
  | .int i => i.natAbs ≤ B
  | .str x => ∀ c ∈ x.cps.toList, c < 128
  | .list xs | .tuple xs => goods B xs
  | .dict kvs => kvs = []
def goods (B : Nat) : List PyData → Prop
  | [] => True
  | x :: xs => good B x ∧ goods B xs
end
mutual
theorem good.mono {B C : Nat} (l : B ≤ C) : ∀ {d : PyData}, good B d → good C d
  | .none, _ | .bool _, _ => trivial
  | .int _, h => Nat.le_trans h l
  | .str _, h => h
  | .list _, h | .tuple _, h => goods.mono l h
  | .dict _, h => h
theorem goods.mono {B C : Nat} (l : B ≤ C) : ∀ {ds : List PyData}, goods B ds → goods C ds
  | [], _ => trivial
  | _ :: _, h => ⟨good.mono l h.1, goods.mono l h.2⟩
end
theorem log2_small {i : Int} {B : Nat} (hB : B < 2 ^ 400) (h : i.natAbs ≤ B) : i.natAbs.log2 < 400 := by
  by_cases e : i.natAbs = 0
  · rw [e]; decide
  · exact (Nat.log2_lt e).mpr (Nat.lt_of_le_of_lt h hB)
section
variable {B : Nat} (hB : B < 2 ^ 400)
include hB
mutual
theorem good.showable : ∀ {d : PyData}, good B d → d.showable = true
  | .none, _ | .bool _, _ | .str _, _ => by simp only [PyData.showable]
  | .int i, h => by
    simp only [PyData.showable, decide_eq_true_eq]
    have := log2_small hB h
    omega
  | .list xs, h | .tuple xs, h => by simp only [PyData.showable]; exact goods.showable h
  | .dict kvs, h => by
    have h : kvs = [] := h
    subst h
    simp only [PyData.showable, PyData.showableKv]
theorem goods.showable : ∀ {ds : List PyData}, goods B ds → PyData.showableAll ds = true
  | [], _ => by simp only [PyData.showableAll]
  | d :: r, h => by simp only [PyData.showableAll, good.showable h.1, goods.showable h.2, Bool.and_self]
end
end
theorem from_le : ∀ (ts : List Str) (k : Nat) (acc : Str), (textFrom k acc ts).length ≤ acc.length + piled ts
  | [], _, acc => Nat.le_add_right _ _
  | t :: r, k, acc => by
    have ih := from_le r (k + 1) (acc ++ (if k > 0 then ", " else "" : String) ++ t)
    have e : (acc ++ (if k > 0 then ", " else "" : String) ++ t).length ≤ acc.length + 2 + t.length := by
      rw [strLen_append, strLen_append]
      split
      · exact Nat.le_refl _
      · exact Nat.add_le_add_right (Nat.le_add_right _ 2) _
    rw [piled_cons]
    show (textFrom (k + 1) _ r).length ≤ _
    omega
theorem list_le (ts : List Str) : (listText ts).length ≤ piled ts + 2 := by
  have := from_le ts 0 "["
  have e1 : (("[" : String) : Str).length = 1 := rfl
  have e2 : (("]" : String) : Str).length = 1 := rfl
  unfold listText
  rw [strLen_append]
  omega
section
variable {B : Nat} (hB : B < 2 ^ 400)
include hB
mutual
theorem shown_le : ∀ {d : PyData}, good B d → d.shown.length ≤ 12 * wt d
  | .none, _ => by simp only [PyData.shown, wt]; decide
  | .bool b, _ => by simp only [PyData.shown, wt]; cases b <;> decide
  | .int i, h => by
    simp only [PyData.shown, wt]
    have := PySem.int_text_length_le (a := i) (k := 400) (by decide) (log2_small hB h)
    have e : (Str.ofString (toString i)).length = (toString i).length := PySem.ofString_length _
    omega
  | .str x, h => by
    simp only [PyData.shown, wt]
    have := StrLaws.reprText_len x fun c hc => Nat.lt_trans (h c hc) (by decide)
    omega
  | .list xs, h => by
    simp only [PyData.shown, wt]
    have := showns_le h
    have e := list_le (PyData.shownAll xs)
    omega
  | .tuple xs, h => by
    simp only [PyData.shown, wt]
    have := showns_le h
    have e := PySem.fmt_text (PyData.shownAll xs)
    omega
  | .dict kvs, h => by
    have h : kvs = [] := h
    subst h
    simp only [PyData.shown, PyData.shownKv, wt]
    decide +kernel
theorem showns_le : ∀ {ds : List PyData}, goods B ds → piled (PyData.shownAll ds) ≤ 12 * wts ds
  | [], _ => by simp only [PyData.shownAll, wts]; decide
  | d :: r, h => by
    simp only [PyData.shownAll, wts, piled_cons]
    have h1 := shown_le h.1
    have h2 := showns_le h.2
    omega
end
end
end Gd
end

section
set_option maxRecDepth 100000
set_option maxHeartbeats 2000000
/-! Tuples backwards, numbers that may be booleans, == with the empty tuple, plain texts in capitals. -/
namespace HT
open PySem PySem.Spec PyProof.Rows
variable {prog : Program} {w : World} {A : Around} {E : Value → Shared → Prop} {s : Shared}
theorem gd_congr {α β : Type} {f g : α → Option β} : ∀ l : List α, (∀ x ∈ l, f x = g x) → l.filterMap f = l.filterMap g
  | [], _ => rfl
  | x :: r, h => by
    rw [List.filterMap_cons, List.filterMap_cons, h x List.mem_cons_self, gd_congr r fun y hy => h y (List.mem_cons_of_mem _ hy)]
theorem gd_pick (xs : Array Value) : ((List.range xs.size).filterMap fun (m : Nat) => xs[(((xs.size : Int) - 1) + (m : Int) * (-1)).toNat]?) = xs.toList.reverse := by
  have e := pick_run xs.reverse 0 xs.size
  rw [show ((0 + ·) : Nat → Nat) = id from funext fun k => Nat.zero_add k, List.map_id, List.drop_zero, Array.toList_reverse, List.take_of_length_le (by simp)] at e
  rw [← e]
  refine gd_congr _ fun m hm => ?_
  have hm := List.mem_range.mp hm
  rw [Array.getElem?_reverse hm]
  congr 1
  omega
theorem gd_applied {sl : Addr} {vl vu vs : Value} {n : Nat} {Q : Int × Int × Nat → Shared → Prop} (hs : s.heap.IsSliceOf sl vl vu vs) (pl : IsPart vl none) (pu : IsPart vu none) (ps : IsPart vs (some (-1)))
    (h : Q ((n : Int) - 1, -1, n) s) : wpAny (model prog w) A (Builtin.Slice.sliceApplied (.ref sl) (pure (n : Int))) Q E s := by
  obtain ⟨os, hos, hcs, hds⟩ := id hs
  unfold Builtin.Slice.sliceApplied Builtin.Slice.sliceFields
  refine wpAny_bind (wpAny_bind (wpAny_field hos hds (x := vl) rfl (wpAny_bind (wpAny_field hos hds (x := vu) rfl (wpAny_bind (wpAny_field hos hds (x := vs) rfl (wpAny_pure ?_)))))))
  refine wpAny_bind (slicePart_ ps ?_)
  show wpAny _ _ (if ((-1 : Int) == 0) = true then _ else _) _ _ s
  rw [if_neg (by decide)]
  refine wpAny_bind (slicePart_ pl (wpAny_bind (slicePart_ pu (wpAny_bind (wpAny_pure ?_)))))
  have e1 : Builtin.Slice.sliceAdjust none none (-1) (n : Int) = ((n : Int) - 1, -1) := by
    first | rfl | (unfold Builtin.Slice.sliceAdjust; simp)
  have e2 : Builtin.Slice.slicePlaces ((n : Int) - 1) (-1) (-1) = n := by
    unfold Builtin.Slice.slicePlaces
    simp
    omega
  show wpAny _ _ (match Builtin.Slice.sliceAdjust none none (-1) (n : Int) with | (lo, hi) => pure (lo, (-1 : Int), Builtin.Slice.slicePlaces lo hi (-1))) _ _ s
  rw [e1]
  show wpAny _ _ (pure ((n : Int) - 1, (-1 : Int), Builtin.Slice.slicePlaces ((n : Int) - 1) (-1) (-1))) _ _ s
  rw [e2]
  exact wpAny_pure h
theorem gd_getItem_rev {t sl : Addr} {items : Array Value} {vl vu vs : Value} {Q : Value → Shared → Prop} (ht : IsTup s.heap t items) (hs : s.heap.IsSliceOf sl vl vu vs) (pl : IsPart vl none) (pu : IsPart vu none) (ps : IsPart vs (some (-1)))
    (h : Q (.ref s.heap.objs.size) { s with heap := s.heap.push { cls := .type "tuple", data := .seq items.toList.reverse.toArray } }) (hsz : items.size ≤ sizeLine) : wpAny (model prog w) A (getItem (.ref t) (.ref sl)) Q E s := by
  have fits : sizeOk (.seq items.toList.reverse.toArray) := by show items.toList.reverse.toArray.size ≤ sizeLine; simpa using hsz
  have hTs : s.TypeIs (.ref sl) "slice" := let ⟨os, a, b, _⟩ := hs; ⟨os, a, b⟩
  unfold getItem
  try with_reducible refine wpAny_holding ?_
  first | refine wpAny_bind (wpAny_pure ?_) | skip
  refine wpAny_bind (wpAny_sequenceKey ht.typeIs (by decide) ?_)
  refine wpAny_bind (wpAny_callSpecial?_slot (name := Str.ofString "__getitem__") ht.typeIs PyProof.Rows.slot_tuple_getitem (wpAny_call_entry PyProof.Rows.slot_tuple_getitem ht.typeIs entry_tuple_getitem ?_ (args_tuple_getitem _ _)))
  show wpAny _ _ (Builtin.Tuple.tupleItemsOf (.ref t) >>= _) _ _ s
  refine wpAny_bind (tupleItemsOf_ ht (wpAny_bind (wpAny_typeOf hTs ?_)))
  rw [if_pos (by decide)]
  refine wpAny_bind (gd_applied hs pl pu ps ?_)
  have no : ¬ (((((items.size : Int) - 1) == 0) && ((-1 : Int) == 1) && (items.size == items.size)) = true) := by simp
  show wpAny _ _ (if ((((items.size : Int) - 1) == 0) && ((-1 : Int) == 1) && (items.size == items.size)) = true then _ else _) _ _ s
  rw [if_neg no, gd_pick]
  first
    | exact wpAny_bind (m := Builtin.Tuple.tupleExact _) (wpAny_newObj_type (wpAny_pure ⟨_, rfl, wpAny_pure h⟩) fits)
    | exact wpAny_bind (wpAny_bind (m := Builtin.Tuple.tupleExact _) (wpAny_newObj_type (wpAny_pure (wpAny_pure ⟨_, rfl, wpAny_pure h⟩)) fits))
    | exact wpAny_bind (wpAny_bind (m := Builtin.Tuple.tupleExact _) (wpAny_newObj_type (wpAny_pure ⟨_, rfl, wpAny_pure h⟩) fits))
    | exact wpAny_bind (m := Builtin.Tuple.tupleExact _) (wpAny_newObj_type (wpAny_bind (wpAny_pure (wpAny_pure ⟨_, rfl, wpAny_pure h⟩))) fits)
end HT
namespace Gd
open PySem PySem.Spec PyProof.Rows L2
/-- t[::-1] -/
def tRevT (te : TE) : TE := fun σ H Q => te σ H fun x H1 => ∃ a xs, x = .ref a ∧ H1 a = some (.tup xs) ∧ ∀ p, H1 p = none → Q (.ref p) (upd H1 p (.tup xs.reverse))
theorem pe_revT {X : Cx} {e : Expr} {te : TE} {k : Nat} {p1 p2 p3 pos : Pos} (he : PE X e te) : PE X (.Subscript e (.Slice none none (some (.UnaryOp .USub (.Constant (.int 1) k p1) p2)) p3) pos) (tRevT te) := by
  refine ⟨fun pins s σ H Q I h => Subscript_ (thn (he.run pins s σ H _ I h) fun v s1 ⟨x, H1, I1, r1, a, xs, ex, hx, q⟩ => ?_)⟩
  subst ex
  cases r1
  have one : PO X (some (.UnaryOp .USub (.Constant (.int 1) k p1) p2)) (tPart (tUn (rU fun i => .int (-i)) (tC (.int 1)))) := po_some (pe_un un_neg pe_int)
  refine wpAny_Slice (thn (po_none.run pins s1 σ H1 (fun o G => o = none ∧ G = H1) I1 ⟨rfl, rfl⟩) fun vl s2 ⟨_, _, I2, pl, e1, e2⟩ => ?_)
  subst e1 e2
  refine thn (po_none.run pins s2 σ _ (fun o G => o = none ∧ G = _) I2 ⟨rfl, rfl⟩) fun vu s3 ⟨_, _, I3, pu, e3, e4⟩ => ?_
  subst e3 e4
  refine thn (one.run pins s3 σ _ (fun o G => o = some (-1) ∧ G = _) I3 ⟨1, rfl, -1, rfl, rfl, rfl⟩) fun vs s4 ⟨_, G, I4, ps, e5, e6⟩ => ?_
  subst e5 e6
  have I5 := I4.kept (h' := s4.heap.push { cls := .type "slice", data := .fields #[vl, vu, vs] }) (t' := s4.toks) fun b ob q => Heap.get?_push_of_some _ q
  obtain ⟨sz, its, rv, ht⟩ := (show ObjOk X.prog X.w _ _ a (.tup xs) from I5.hok _ _ hx)
  have many := rv.length
  show wpAny (model X.prog X.w) X.A (subscriptTail e (.Slice none none (some (.UnaryOp .USub (.Constant (.int 1) k p1) p2)) p3) (.ref a) (.ref s4.heap.objs.size)) (EP X pins σ Q) X.xe { s4 with heap := s4.heap.push { cls := .type "slice", data := .fields #[vl, vu, vs] } }
  refine tail_any (ops := [.ref a, .ref s4.heap.objs.size]) ht.typeIs (PyProof.Rows.slot_tuple_getitem.lookup) ?_ (by with_unfolding_all rfl)
  refine HT.gd_getItem_rev ht (Heap.IsSliceOf.new _ vl vu vs) pl pu ps ?_ (by rw [List.size_toArray]; omega)
  exact ⟨.ref _, _, I5.laid (t' := s4.toks) (o := .tup xs.reverse) (fun b ob q => Heap.get?_push_of_some _ q) (Nat.le_refl _) ⟨by rw [List.length_reverse]; exact sz, _, rv.reverse, IsTup.new _ _⟩, rfl, q _ (I5.hok.fresh (Nat.le_refl _))⟩
section
variable {X : Cx} {k : Nat}
/-- an int, or a boolean that counts as one -/
def NumV (x : V) (i : Int) : Prop := x = .int i ∨ ∃ b : Bool, x = .bl b ∧ i = if b = true then 1 else 0
def rNum (g : Int → Int → V) : R2 := fun x y H Q => ∃ i j, NumV x i ∧ y = .int j ∧ Q (g i j) H
theorem op_addN : OpR X (binaryOp .Add) (rNum fun i j => .int (i + j)) := by
  intro pins s σ H x y v u Q I rx ry h
  obtain ⟨i, j, rfl | ⟨b, rfl, rfl⟩, rfl, q⟩ := h
  · obtain ⟨t, rfl⟩ := rx
    obtain ⟨t2, rfl⟩ := ry
    exact add_int ⟨.int _, H, I.tok _, ⟨_, rfl⟩, q⟩
  · cases rx
    obtain ⟨t2, rfl⟩ := ry
    exact PySem.IntBool.add_bool_int ⟨.int _, H, I.tok _, ⟨_, rfl⟩, q⟩
theorem op_subN : OpR X (binaryOp .Sub) (rNum fun i j => .int (i - j)) := by
  intro pins s σ H x y v u Q I rx ry h
  obtain ⟨i, j, rfl | ⟨b, rfl, rfl⟩, rfl, q⟩ := h
  · obtain ⟨t, rfl⟩ := rx
    obtain ⟨t2, rfl⟩ := ry
    exact sub_int ⟨.int _, H, I.tok _, ⟨_, rfl⟩, q⟩
  · cases rx
    obtain ⟨t2, rfl⟩ := ry
    exact PySem.IntBool.sub_bool_int ⟨.int _, H, I.tok _, ⟨_, rfl⟩, q⟩
/-- .. == a number -/
theorem op_eqN : OpR X (compareOp .Eq) (rNum fun i j => .bl (i == j)) := by
  intro pins s σ H x y v u Q I rx ry h
  obtain ⟨i, j, rfl | ⟨b, rfl, rfl⟩, rfl, q⟩ := h
  · obtain ⟨t, rfl⟩ := rx
    obtain ⟨t2, rfl⟩ := ry
    exact PySem.EqBoolInt.of_rc (SeqAt.RcAt.int_int i t j t2) ⟨.bl _, H, I, rfl, q⟩
  · cases rx
    obtain ⟨t2, rfl⟩ := ry
    exact PySem.EqBoolInt.of_rc (SeqAt.RcAt.bool_int b j t2) ⟨.bl _, H, I, rfl, q⟩
def rNegN : V → Hp → VK → Prop := fun x H Q => ∃ i, NumV x i ∧ Q (.int (-i)) H
theorem un_negN : UnR X (unaryOp .USub) rNegN := by
  intro pins s σ H x v Q I rx h
  obtain ⟨i, rfl | ⟨b, rfl, rfl⟩, q⟩ := h
  · obtain ⟨t, rfl⟩ := rx
    exact neg_int ⟨.int _, H, I.tok _, ⟨_, rfl⟩, q⟩
  · cases rx
    unfold unaryOp
    refine wpAny_holding (wpAny_bind (m := callSpecial? (.bool b) (Str.ofString "__neg__")) (wpAny_callSpecial?_slot (name := Str.ofString "__neg__") rfl F.slot_bool_neg (wpAny_call_entry F.slot_bool_neg rfl entry_int_neg ?_ (args_int_neg _))))
    cases b
    · show wpAny _ _ (do ret (← mkInt (-0))) _ _ s
      exact wpAny_ret_mkInt (wpAny_pure ⟨.int _, H, I.tok _, ⟨_, rfl⟩, q⟩)
    · show wpAny _ _ (do ret (← mkInt (-1))) _ _ s
      exact wpAny_ret_mkInt (wpAny_pure ⟨.int _, H, I.tok _, ⟨_, rfl⟩, q⟩)
/-- str(number or boolean) -/
def rStrN : List V → Hp → VK → Prop := fun xs H Q => (∃ i : Int, xs = [.int i] ∧ i.natAbs.log2 < 1920 ∧ Q (.str (toString i)) H) ∨ ∃ b : Bool, xs = [.bl b] ∧ Q (.str (if b then "True" else "False")) H
theorem call_strN : CallR X (.type "str") rStrN := by
  intro pins s σ H xs us Q I r h
  obtain ⟨i, rfl, z, q⟩ | ⟨b, rfl, q⟩ := h
  · obtain ⟨u, rfl, t, rfl⟩ := vals1 r
    exact PySem.P.str_of_int z ⟨.str _, H, I.tok _, ⟨_, rfl⟩, q⟩
  · obtain ⟨u, rfl, e⟩ := vals1 r
    cases e
    exact PySem.P.str_of_bool ⟨.str _, H, I.tok _, ⟨_, rfl⟩, q⟩
/-- t == () -/
theorem op_eqE (hr : Room k X.A) : OpR X (compareOp .Eq) (fun x y H Q => ∃ a b xs, x = .ref a ∧ y = .ref b ∧ H a = some (.tup xs) ∧ H b = some (.tup []) ∧ Q (.bl xs.isEmpty) H) := by
  intro pins s σ H x y v u Q I rx ry h
  obtain ⟨a, b, xs, rfl, rfl, ha, hb, q⟩ := h
  cases rx
  cases ry
  obtain ⟨_, its, rv, ht⟩ := (show ObjOk X.prog X.w H s.heap a (.tup xs) from I.hok _ _ ha)
  obtain ⟨_, its2, rv2, ht2⟩ := (show ObjOk X.prog X.w H s.heap b (.tup []) from I.hok _ _ hb)
  cases rv2
  refine SeqAt.eq_tupleAt (e := fun _ => true) ht ht2 hr.units0 (fun j _ h2 => absurd h2 (by simp)) ⟨.bl _, H, I, rfl, ?_⟩
  have e : ((List.range (min its.toArray.size (#[] : Array Value).size)).all (fun _ => true) && its.toArray.size == (#[] : Array Value).size) = xs.isEmpty := by
    cases rv <;> simp
  exact e ▸ q
end
theorem upper_of : ∀ c, c < 128 → ∃ x, Unicode.upperOf c = [x] ∧ x < 128 := by
  have h : (List.range 128).all (fun c => match Unicode.upperOf c with | [x] => decide (x < 128) | _ => false) = true := by decide +kernel
  intro c hc
  have := List.all_eq_true.mp h c (List.mem_range.mpr hc)
  split at this
  · rename_i x e
    exact ⟨x, e, of_decide_eq_true this⟩
  · cases this
theorem plain_list : ∀ l : List Nat, (∀ c ∈ l, c < 128) → (l.flatMap Unicode.upperOf).length = l.length ∧ ∀ c ∈ l.flatMap Unicode.upperOf, c < 128
  | [], _ => ⟨rfl, nofun⟩
  | c :: r, h => by
    obtain ⟨x, e, hx⟩ := upper_of c (h c List.mem_cons_self)
    obtain ⟨l1, l2⟩ := plain_list r fun y hy => h y (List.mem_cons_of_mem _ hy)
    rw [List.flatMap_cons, e]
    refine ⟨by simp [l1], fun y hy => ?_⟩
    rcases List.mem_append.mp hy with hy | hy
    · rw [List.mem_singleton.mp hy]; exact hx
    · exact l2 y hy
theorem upper_list (z : Str) : (Txt.upper z).cps.toList = z.cps.toList.flatMap Unicode.upperOf := by
  show ((z.cps.mapIdx fun _ c => (Unicode.upperOf c).toArray).flatten).toList = _
  rw [Array.toList_flatten, Array.toList_mapIdx]
  have e : List.mapIdx (fun _ c => (Unicode.upperOf c).toArray) z.cps.toList = z.cps.toList.map fun c => (Unicode.upperOf c).toArray := by
    apply List.ext_getElem?
    intro i
    simp [List.getElem?_mapIdx, List.getElem?_map]
  rw [e, List.map_map]
  rfl
theorem upper_plain (z : Str) (h : ∀ c ∈ z.cps.toList, c < 128) : (Txt.upper z).length = z.length ∧ ∀ c ∈ (Txt.upper z).cps.toList, c < 128 := by
  obtain ⟨a, b⟩ := plain_list z.cps.toList h
  rw [← upper_list] at a b
  exact ⟨by rw [Array.length_toList, Array.length_toList] at a; exact a, b⟩
end Gd
end

section
set_option maxRecDepth 100000
set_option maxHeartbeats 2000000
/-! Expressions that give data and change nothing. -/
namespace Gd
open PySem PySem.Spec PyProof.Rows L2
/-- whatever has grown since H, te gives a value that reads as d -/
def EvE (M : List Addr) (te : TE) (σ : L2.St) (H : Hp) (d : PyData) : Prop := ∀ H1, Kp [] H H1 → ∀ R : V → Hp → Prop, (∀ v H2, Kp [] H1 H2 → Rep M H2 v d → R v H2) → te σ H1 R
def EvL (M : List Addr) (ta : TA) (σ : L2.St) (H : Hp) (ds : List PyData) : Prop := ∀ H1, Kp [] H H1 → ∀ R : List V → Hp → Prop, (∀ vs H2, Kp [] H1 H2 → Reps M H2 vs ds → R vs H2) → ta σ H1 R
theorem Live.grow {M : List Addr} {H H' : Hp} (l : Live M H) (k : Kp [] H H') : Live M H' := fun b hb => let ⟨o, e⟩ := l b hb; ⟨o, k b o List.not_mem_nil e⟩
section
variable {M : List Addr} {σ : L2.St} {H : Hp} {te tf : TE} {ta : TA} {d e : PyData} {ds : List PyData}
theorem EvE.run (h : EvE M te σ H d) {R : V → Hp → Prop} (q : ∀ v H2, Kp [] H H2 → Rep M H2 v d → R v H2) : te σ H R := h H .refl R q
theorem EvL.run (h : EvL M ta σ H ds) {R : List V → Hp → Prop} (q : ∀ v H2, Kp [] H H2 → Reps M H2 v ds → R v H2) : ta σ H R := h H .refl R q
theorem ev_non : EvE M (tC .non) σ H .none := fun H1 _ R q => q _ H1 .refl .non
theorem ev_bl (b : Bool) : EvE M (tC (.bl b)) σ H (.bool b) := fun H1 _ R q => q _ H1 .refl (.bl b)
theorem ev_int (i : Int) : EvE M (tC (.int i)) σ H (.int i) := fun H1 _ R q => q _ H1 .refl (.int i)
theorem ev_str (x : Str) : EvE M (tC (.str x)) σ H (.str x) := fun H1 _ R q => q _ H1 .refl (.str x)
theorem ev_var {i : Nat} {v : V} (e : σ[i]? = some (some v)) (r : Rep M H v d) : EvE M (tVar i) σ H d := fun H1 k R q => ⟨v, e, q v H1 .refl (r.keep k.same)⟩
theorem ev_nil : EvL M tNil σ H [] := fun H1 _ R q => q [] H1 .refl .nil
theorem ev_cons (h : EvE M te σ H d) (hs : EvL M ta σ H ds) : EvL M (tCons te ta) σ H (d :: ds) := fun H1 k R q =>
  h H1 k _ fun v H2 k2 r => hs H2 (k.trans k2) _ fun vs H3 k3 rs => q _ H3 (k2.trans k3) (.cons (r.keep k3.same) rs)
theorem ev_tup (l : Live M H) (h : EvL M ta σ H ds) (z : ds.length ≤ 100000) : EvE M (tTup ta) σ H (.tuple ds) := fun H1 k R q =>
  h H1 k _ fun vs H2 k2 r => ⟨by rw [r.length, sizeLine_eq]; omega, fun p hp => q _ _ (k2.trans (Kp.new hp)) (.tup (((l.grow k).grow k2).fresh hp) upd_same (r.keep (Kp.new hp)))⟩
theorem ev_lst (l : Live M H) (h : EvL M ta σ H ds) (z : ds.length ≤ 100000) : EvE M (tLstS ta) σ H (.list ds) := fun H1 k R q =>
  h H1 k _ fun vs H2 k2 r => ⟨by rw [r.length, sizeLine_eq]; omega, fun p hp ns => q _ _ (k2.trans (Kp.new hp)) (.lst (((l.grow k).grow k2).fresh hp) ns upd_same (r.keep (Kp.new hp)))⟩
theorem ev_emp (l : Live M H) : EvE M tDNewK σ H (.dict []) := fun H1 k R q p hp => q _ _ (Kp.new hp) (.emp ((l.grow k).fresh hp) upd_same)
theorem ev_neg (i : Int) : EvE M (tUn (rU fun i => .int (-i)) (tC (.int i))) σ H (.int (-i)) := fun H1 _ R q => ⟨i, rfl, q _ H1 .refl (.int _)⟩
/-- list(t) -/
theorem ev_list (l : Live M H) (h : EvE M te σ H (.tuple ds)) : EvE M (tCB rListT (tCons te tNil)) σ H (.list ds) := fun H1 k R q =>
  h H1 k _ fun v H2 k2 r => by
    cases r with
    | tup n e z => exact ⟨_, _, rfl, e, fun p hp ns => q _ _ (k2.trans (Kp.new hp)) (.lst (((l.grow k).grow k2).fresh hp) ns upd_same (z.keep (Kp.new hp)))⟩
/-- t[lo:hi], some items of it -/
theorem ev_cut {K : PySem.W.Frag} {tl th : TO} {lo hi : Option Int} (l : Live M H) (h : EvE M te σ H (.tuple ds)) (hl : ∀ H1 (R : Option Int → Hp → Prop), R lo H1 → tl σ H1 R) (hh : ∀ H1 (R : Option Int → Hp → Prop), R hi H1 → th σ H1 R) :
    ∃ a b, EvE M (tSl (rSlA K) te tl th) σ H (.tuple ((ds.drop a).take b)) := by
  by_cases w : HT.sIx ds.length 0 lo = 0 ∧ HT.sIx ds.length ds.length hi = ds.length
  · refine ⟨0, ds.length, fun H1 k R q => h H1 k _ fun v H2 k2 r => hl _ _ (hh _ _ ?_)⟩
    rw [List.drop_zero, List.take_length] at q
    cases r with
    | tup n e z =>
      rw [← z.length] at w
      exact ⟨_, _, rfl, .inl (.inl e), fun _ => q _ _ k2 (.tup n e z), fun z => absurd w z⟩
  · refine ⟨HT.sIx ds.length 0 lo, HT.sIx ds.length ds.length hi - HT.sIx ds.length 0 lo, fun H1 k R q => h H1 k _ fun v H2 k2 r => hl _ _ (hh _ _ ?_)⟩
    cases r with
    | tup n e z =>
      rw [← z.length] at w q
      exact ⟨_, _, rfl, .inl (.inl e), fun z => absurd z w, fun _ p hp => q _ _ (k2.trans (Kp.new hp)) (.tup (((l.grow k).grow k2).fresh hp) upd_same (((z.drop _).take _).keep (Kp.new hp)))⟩
theorem po_no {H1 : Hp} (R : Option Int → Hp → Prop) (h : R none H1) : tNoPart σ H1 R := h
/-- t + u -/
theorem ev_cat {K : PySem.W.Frag} {es : List PyData} (l : Live M H) (h : EvE M te σ H (.tuple ds)) (hu : EvE M tf σ H (.tuple es)) (z : ds.length + es.length ≤ 100000) : EvE M (tOp (rCatA K) te tf) σ H (.tuple (ds ++ es)) := fun H1 k R q =>
  h H1 k _ fun v H2 k2 r => hu H2 (k.trans k2) _ fun u H3 k3 r3 => by
    have r := r.keep k3.same
    cases r with
    | tup n e z1 =>
      cases r3 with
      | tup n2 e2 z2 =>
        have l1 := z1.length
        have l2 := z2.length
        refine ⟨_, _, _, _, rfl, rfl, .inl (.inl e), .inl (.inl e2), by rw [sizeLine_eq]; omega, fun h0 => ?_, fun _ h0 => ?_, fun _ _ p hp => q _ _ ((k2.trans k3).trans (Kp.new hp)) (.tup ((((l.grow k).grow k2).grow k3).fresh hp) upd_same ((z1.append z2).keep (Kp.new hp)))⟩
        · subst h0
          cases z1
          exact q _ _ (k2.trans k3) (.tup n2 e2 z2)
        · subst h0
          cases z2
          rw [List.append_nil] at q
          exact q _ _ (k2.trans k3) (.tup n e z1)
/-- v + u, two tuples that stand -/
theorem cat_v {K : PySem.W.Frag} {es : List PyData} {v u : V} {Q : VK} (l : Live M H) (r : Rep M H v (.tuple ds)) (r2 : Rep M H u (.tuple es)) (z : ds.length + es.length ≤ 100000) (q : ∀ x H', Kp [] H H' → Rep M H' x (.tuple (ds ++ es)) → Q x H') : rCatA K v u H Q := by
  cases r with
  | tup n e z1 =>
    cases r2 with
    | tup n2 e2 z2 =>
      have l1 := z1.length
      have l2 := z2.length
      refine ⟨_, _, _, _, rfl, rfl, .inl (.inl e), .inl (.inl e2), by rw [sizeLine_eq]; omega, fun h0 => ?_, fun _ h0 => ?_, fun _ _ p hp => q _ _ (Kp.new hp) (.tup (l.fresh hp) upd_same ((z1.append z2).keep (Kp.new hp)))⟩
      · subst h0
        cases z1
        exact q _ _ .refl (.tup n2 e2 z2)
      · subst h0
        cases z2
        rw [List.append_nil] at q
        exact q _ _ .refl (.tup n e z1)
/-- t[::-1] -/
theorem ev_rev (l : Live M H) (h : EvE M te σ H (.tuple ds)) : EvE M (tRevT te) σ H (.tuple ds.reverse) := fun H1 k R q =>
  h H1 k _ fun v H2 k2 r => by
    cases r with
    | tup n e z => exact ⟨_, _, rfl, e, fun p hp => q _ _ (k2.trans (Kp.new hp)) (.tup (((l.grow k).grow k2).fresh hp) upd_same (z.reverse.keep (Kp.new hp)))⟩
/-- x + "..", x a text -/
theorem ev_adds {x y : Str} (h : EvE M te σ H (.str x)) (hu : EvE M tf σ H (.str y)) (z : x.length + y.length ≤ 100000) :
    EvE M (tOp (fun x y H Q => ∃ i j, x = V.str i ∧ y = V.str j ∧ i.length + j.length ≤ sizeLine ∧ Q (.str (i ++ j)) H) te tf) σ H (.str (x ++ y)) := fun H1 k R q =>
  h H1 k _ fun v H2 k2 r => hu H2 (k.trans k2) _ fun u H3 k3 r3 => by
    cases r
    cases r3
    exact ⟨x, y, rfl, rfl, by rw [sizeLine_eq]; omega, q _ H3 (k2.trans k3) (.str _)⟩
end
section
variable {M : List Addr} {σ : L2.St} {H : Hp} {te tf : TE} {ta : TA} {d e : PyData} {ds : List PyData}
/-- x[lo:hi], x a text -/
theorem ev_cutS {tl th : TO} {lo hi : Option Int} {x : Str} (h : EvE M te σ H (.str x)) (z : x.length ≤ 100000) (hl : ∀ H1 (R : Option Int → Hp → Prop), R lo H1 → tl σ H1 R) (hh : ∀ H1 (R : Option Int → Hp → Prop), R hi H1 → th σ H1 R) :
    EvE M (tSl rSlS te tl th) σ H (.str (cutS x lo hi)) := fun H1 k R q => h H1 k _ fun v H2 k2 r => hl _ _ (hh _ _ (by cases r; exact ⟨x, rfl, by rw [sizeLine_eq]; omega, q _ H2 k2 (.str _)⟩))
/-- x.upper() -/
theorem ev_upper {K : PySem.W.Frag} {x : Str} (h : EvE M te σ H (.str x)) (z : x.length ≤ 100000) : EvE M (tBM0 K "str" (fun x xs H Q => ∃ a, x = V.str a ∧ xs = [] ∧ a.length ≤ 5592405 ∧ Q (.str (Txt.upper a)) H) te) σ H (.str (Txt.upper x)) := fun H1 k R q =>
  h H1 k _ fun v H2 k2 r => by
    cases r
    exact ⟨by first | exact .inl ⟨rfl, _, rfl⟩ | exact ⟨rfl, _, rfl⟩ | exact .inr (.inl ⟨rfl, _, rfl⟩) | trivial | exact .inr ⟨rfl, _, rfl⟩, x, rfl, rfl, by omega, q _ H2 k2 (.str _)⟩
/-- the number that d counts as -/
def num : PyData → Int
  | .int i => i
  | .bool true => 1
  | _ => 0
theorem num_of {d : PyData} {v : V} (h : isInt d = true) (r : Rep M H v d) : NumV v (num d) := by
  cases r with
  | bl b => exact .inr ⟨b, rfl, by cases b <;> rfl⟩
  | int i => exact .inl rfl
  | _ => cases h
theorem ev_num {g : Int → Int → V} {f : Int → Int → PyData} {j : Int} (hd : isInt d = true) (h : EvE M te σ H d) (hg : ∀ H1 i j, Rep M H1 (g i j) (f i j)) : EvE M (tOp (rNum g) te (tC (.int j))) σ H (f (num d) j) := fun H1 k R q =>
  h H1 k _ fun v H2 k2 r => ⟨_, j, num_of hd r, rfl, q _ H2 k2 (hg ..)⟩
theorem ev_negN (hd : isInt d = true) (h : EvE M te σ H d) : EvE M (tUn rNegN te) σ H (.int (-num d)) := fun H1 k R q =>
  h H1 k _ fun v H2 k2 r => ⟨_, num_of hd r, q _ H2 k2 (.int _)⟩
def strN (d : PyData) : Str := match d with | .bool b => if b then "True" else "False" | _ => Str.ofString (toString (num d))
theorem ev_strN (hd : isInt d = true) (hs : (num d).natAbs.log2 < 1920) (h : EvE M te σ H d) : EvE M (tCB rStrN (tCons te tNil)) σ H (.str (strN d)) := fun H1 k R q =>
  h H1 k _ fun v H2 k2 r => by
    cases r with
    | bl b => exact .inr ⟨b, rfl, q _ H2 k2 (.str _)⟩
    | int i => exact .inl ⟨i, rfl, hs, q _ H2 k2 (.str _)⟩
    | _ => cases hd
end
theorem seq_i {t u : TS} {D : Ends} {σ : L2.St} {H : Hp} (h : t { D with nx := u D } σ H) : tSeq t u D σ H := h
theorem asg_i {te : TE} {g : TG} {D : Ends} {σ : L2.St} {H : Hp} (h : te σ H fun x H1 => g x σ H1 D.nx) : tAsg te g D σ H := h
theorem lst_i {ta : TA} {σ : L2.St} {H : Hp} {Q : VK} (h : ta σ H fun xs H1 => xs.length ≤ sizeLine ∧ ∀ p, H1 p = none → p ≠ sysModules → Q (.ref p) (upd H1 p (.lst xs))) : tLstS ta σ H Q := h
end Gd
end

section
set_option maxRecDepth 100000
set_option maxHeartbeats 2000000
/-! How large parts of data are. -/
namespace Gd
open PySem PySem.Spec PyProof.Rows L2
theorem goods_iff {B : Nat} : ∀ {xs : List PyData}, goods B xs ↔ ∀ x ∈ xs, good B x
  | [] => ⟨fun _ => nofun, fun _ => trivial⟩
  | x :: r => by
    simp only [goods, List.mem_cons, forall_eq_or_imp, goods_iff (xs := r)]
theorem depthAll_le {D : Nat} : ∀ {xs : List PyData}, PyData.depthAll xs ≤ D ↔ ∀ x ∈ xs, x.depth ≤ D
  | [] => by simp [PyData.depthAll]
  | x :: r => by
    simp only [PyData.depthAll, List.mem_cons, forall_eq_or_imp, ← depthAll_le (xs := r)]
    omega
theorem wts_sub {xs ys : List PyData} (h : xs.Sublist ys) : wts xs ≤ wts ys := by
  induction h with
  | slnil => exact Nat.le_refl _
  | cons a _ ih => simp only [wts]; omega
  | cons_cons a _ ih => simp only [wts]; omega
theorem wts_append : ∀ xs ys : List PyData, wts (xs ++ ys) = wts xs + wts ys
  | [], ys => by simp [wts]
  | x :: r, ys => by
    rw [List.cons_append]
    simp only [wts, wts_append r ys]
    omega
theorem wts_reverse : ∀ xs : List PyData, wts xs.reverse = wts xs
  | [] => rfl
  | x :: r => by
    rw [List.reverse_cons, wts_append, wts_reverse r]
    simp only [wts]
    omega
theorem cut_sub {α : Type} (xs : List α) (a b : Nat) : ((xs.drop a).take b).Sublist xs := (List.take_sublist _ _).trans (List.drop_sublist _ _)
end Gd
end

section
set_option maxRecDepth 100000
set_option maxHeartbeats 2000000
/-! Exact cuts of tuples. -/
namespace Gd
open PySem PySem.Spec PyProof.Rows L2
section
variable {M : List Addr} {σ : L2.St} {H : Hp} {te : TE} {ds : List PyData}
theorem ev_cutX {K : PySem.W.Frag} {tl th : TO} {lo hi : Option Int} (l : Live M H) (h : EvE M te σ H (.tuple ds)) (hl : ∀ H1 (R : Option Int → Hp → Prop), R lo H1 → tl σ H1 R) (hh : ∀ H1 (R : Option Int → Hp → Prop), R hi H1 → th σ H1 R) :
    EvE M (tSl (rSlA K) te tl th) σ H (.tuple ((ds.drop (HT.sIx ds.length 0 lo)).take (HT.sIx ds.length ds.length hi - HT.sIx ds.length 0 lo))) := by
  by_cases w : HT.sIx ds.length 0 lo = 0 ∧ HT.sIx ds.length ds.length hi = ds.length
  · refine fun H1 k R q => h H1 k _ fun v H2 k2 r => hl _ _ (hh _ _ ?_)
    rw [w.1, w.2, List.drop_zero, Nat.sub_zero, List.take_length] at q
    cases r with
    | tup n e z =>
      rw [← z.length] at w
      exact ⟨_, _, rfl, .inl (.inl e), fun _ => q _ _ k2 (.tup n e z), fun z => absurd w z⟩
  · refine fun H1 k R q => h H1 k _ fun v H2 k2 r => hl _ _ (hh _ _ ?_)
    cases r with
    | tup n e z =>
      rw [← z.length] at w q
      exact ⟨_, _, rfl, .inl (.inl e), fun z => absurd z w, fun _ p hp => q _ _ (k2.trans (Kp.new hp)) (.tup (((l.grow k).grow k2).fresh hp) upd_same (((z.drop _).take _).keep (Kp.new hp)))⟩
/-- t[:n] -/
theorem ev_take {K : PySem.W.Frag} {th : TO} {n : Nat} (l : Live M H) (h : EvE M te σ H (.tuple ds)) (hh : ∀ H1 (R : Option Int → Hp → Prop), R (some (n : Int)) H1 → th σ H1 R) :
    EvE M (tSl (rSlA K) te tNoPart th) σ H (.tuple (ds.take n)) := by
  have := ev_cutX (K := K) (tl := tNoPart) (th := th) (lo := none) (hi := some (n : Int)) l h (fun H1 R h => po_no R h) hh
  rw [HT.sIx_none, HT.sIx_nat, List.drop_zero, Nat.sub_zero] at this
  have e : ds.take (min n ds.length) = ds.take n := by
    rw [List.take_eq_take_iff]; omega
  rwa [e] at this
/-- t[n:] -/
theorem ev_drop {K : PySem.W.Frag} {tl : TO} {n : Nat} (l : Live M H) (h : EvE M te σ H (.tuple ds)) (hl : ∀ H1 (R : Option Int → Hp → Prop), R (some (n : Int)) H1 → tl σ H1 R) :
    EvE M (tSl (rSlA K) te tl tNoPart) σ H (.tuple (ds.drop n)) := by
  have := ev_cutX (K := K) (tl := tl) (th := tNoPart) (lo := some (n : Int)) (hi := none) l h hl (fun H1 R h => po_no R h)
  rw [HT.sIx_none, HT.sIx_nat] at this
  have e : (ds.drop (min n ds.length)).take (ds.length - min n ds.length) = ds.drop n := by
    rw [List.take_of_length_le (by rw [List.length_drop]; omega)]
    by_cases h : n ≤ ds.length
    · rw [Nat.min_eq_left h]
    · rw [Nat.min_eq_right (by omega), List.drop_of_length_le (Nat.le_refl _), List.drop_of_length_le (by omega)]
  rwa [e] at this
end
theorem wts_at : ∀ {xs : List PyData} {n : Nat} {x : PyData}, xs[n]? = some x → wts xs = wts (xs.take n) + (wt x + 1) + wts (xs.drop (n + 1))
  | [], n, x, h => by simp at h
  | y :: r, 0, x, h => by
    simp only [List.getElem?_cons_zero, Option.some.injEq] at h
    subst h
    simp only [List.take_zero, List.drop_succ_cons, List.drop_zero, wts]
    omega
  | y :: r, n + 1, x, h => by
    rw [List.getElem?_cons_succ] at h
    have := wts_at h
    simp only [List.take_succ_cons, List.drop_succ_cons, wts]
    omega
end Gd
end

section
set_option maxRecDepth 100000
set_option maxHeartbeats 2000000
/-! enumerate(text), tuple(text). -/
namespace Gd
open PySem PySem.Spec PyProof.Rows L2
/-- the signs of a text, each in a new pair -/
def Ites (z : Str) : It := ⟨fun i H => i < z.cps.size, fun i H v H' => ∃ T c, v = .ref T ∧ H T = none ∧ H' = upd H T (.tup [.int (i : Nat), .str ⟨#[c]⟩]) ∧ z.cps[i]? = some c, fun i H => z.cps.size ≤ i⟩
section
variable {prog : Program} {w : World} {A : Around} {E : Value → Shared → Prop} {s : Shared}
theorem enum_endS {e it : Addr} {x : Str} {t : Tok} {ty : String} {k : Nat} {i : Int} {old : Value} {Q : Option Value → Shared → Prop} (hh : A.handled = none) (hty : ty = "str_ascii_iterator" ∨ ty = "str_iterator") (he : IsEnum s.heap e it i old)
    (hit : s.heap.IsStrIter it ty x t k) (hx : x.cps[k]? = none) (hQ : ∀ h', Heap.ExtBut it s.heap h' → Q none { s with heap := h' }) : wpAny (model prog w) A (pyNext (.ref e)) Q E s := by
  have hT : s.TypeIs (.ref e) "enumerate" := ⟨_, he, rfl⟩
  unfold pyNext
  refine wpAny_bind (wpAny_attempt (wpAny_callSpecial?_slot (name := Str.ofString "__next__") hT F.slot_enumerate_next
    (wpAny_call_entry F.slot_enumerate_next hT F.entry_enumerate_next ?_ (F.args_enumerate_next_1 _))))
  show wpAny _ _ (field (.ref e) 2 >>= _) _ _ _
  refine wpAny_bind (wpAny_field he rfl (x := .ref it) rfl ?_)
  refine wpAny_bind ?_
  rcases hty with z | z
  · rw [z] at hit
    refine wpAny_nextOf_ascii_end (A := A.in1) hh hit hx fun h' x' he' hx' => ?_
    obtain ⟨o, ho, hc⟩ := hx'
    refine wpAny_bind (wpAny_isInstance (T := "StopIteration") (b := true) ⟨o, ho, hc⟩ isSubtype_stop ?_)
    exact wpAny_pure (hQ _ he')
  · rw [z] at hit
    refine wpAny_nextOf_wide_end (A := A.in1) hh hit hx fun h' x' he' hx' => ?_
    obtain ⟨o, ho, hc⟩ := hx'
    refine wpAny_bind (wpAny_isInstance (T := "StopIteration") (b := true) ⟨o, ho, hc⟩ isSubtype_stop ?_)
    exact wpAny_pure (hQ _ he')
end
theorem turn_enumS {P : Program} {w : World} {K : PySem.W.Frag} {elts : List Expr} {kk : Nat} {tpos : Pos} (e it : Addr) (z : Str) (t : Tok) (ty : String) (hty : ty = "str_ascii_iterator" ∨ ty = "str_iterator") :
    Turn P w K (.Tuple elts kk tpos) (Ites z) [e, it] e (fun i h => (∃ old, IsEnum h e it ((i : Nat) : Int) old) ∧ h.IsStrIter it ty z t i ∧ e ≠ it) where
  mem := by simp
  obj := fun i h st b hb => by
    obtain ⟨⟨old, he⟩, ⟨o, ho, hc, hd⟩, _⟩ := st
    have e' : b = e ∨ b = it := by simpa using hb
    rcases e' with z | z
    · rw [z]; exact ⟨_, he, fun v q => nomatch q⟩
    · rw [z]; exact ⟨o, ho, fun v q => by rw [hd] at q; cases q⟩
  keep := fun i h h' st k => let ⟨⟨old, he⟩, ⟨o, ho, r⟩, hne⟩ := st; ⟨⟨old, k e (by simp) _ he⟩, ⟨o, k it (by simp) o ho, r⟩, hne⟩
  item := by
    intro X hP hw hK hc i pins s σ H E I hf st hg
    subst hP hw hK
    obtain ⟨⟨old, he⟩, hit, hne⟩ := st
    have hel : e < s.heap.objs.size := Heap.lt_size he
    have hil : it < s.heap.objs.size := by obtain ⟨_, q, _⟩ := hit; exact Heap.lt_size q
    have D : Draws X.prog X.w X.A.in1 it [it] z.cps.size (fun i v => ∃ c u, z.cps[i]? = some c ∧ v = .str ⟨#[c]⟩ u) (fun i h => h.IsStrIter it ty z t i) := by
      rcases hty with q | q
      · rw [q]; exact Draws.strAscii (A := X.A.in1) (I.ok.hd hc) it z t
      · rw [q]; exact Draws.strWide (A := X.A.in1) (I.ok.hd hc) it z t
    refine wpAny_pyNext_enum_itemD D he hit hg hne (by simpa using hne) fun v h' tk hv ho hit' hT hsz hk => ?_
    obtain ⟨c, u, hcx, rfl⟩ := hv
    refine ⟨_, rfl, wpAny_letOwnedTupleGo_enum (s := { s with heap := h', toks := tk + 1 }) ho fun h'' he' sb => ?_⟩
    have hT2 : h''.get? s.heap.objs.size = some { cls := .type "tuple", data := .seq #[.int i tk, .str ⟨#[c]⟩ u] } := (sb.2 _ (Nat.ne_of_gt hel)).trans hT
    have new : ObjOk X.prog X.w (upd H s.heap.objs.size (.tup [.int (i : Nat), .str ⟨#[c]⟩])) h'' s.heap.objs.size (.tup [.int (i : Nat), .str ⟨#[c]⟩]) :=
      ⟨by show 2 ≤ sizeLine; decide, [.int i tk, .str ⟨#[c]⟩ u], .cons ⟨_, rfl⟩ (.cons ⟨_, rfl⟩ .nil), ⟨_, hT2, rfl, _, rfl⟩⟩
    have I1 : Inv X pins σ (upd H s.heap.objs.size (.tup [.int (i : Nat), .str ⟨#[c]⟩])) { s with heap := h'', toks := tk + 1 } :=
      I.turnedNew (ch := [e, it]) (fun b ob hb q => (sb.2 b (fun z => hb (by simp [z]))).trans (hk b ob (fun z => hb (by simp [z])) (fun z => hb (by simp [z])) q)) hf (Nat.le_refl _) new
    refine ⟨.ref s.heap.objs.size, _, I1, rfl, ⟨_, c, rfl, I.hok.fresh (Nat.le_refl _), rfl, hcx⟩, ⟨⟨.str ⟨#[c]⟩ u, ?_⟩, ?_, hne⟩, fun b hb => ?_⟩
    · have e1 : ((i + 1 : Nat) : Int) = (i : Int) + 1 := by omega
      rw [e1]; exact he'
    · obtain ⟨o, ho, r⟩ := hit'
      exact ⟨o, (sb.2 it (Ne.symm hne)).trans ho, r⟩
    · have hb' : b < s.heap.objs.size := by
        have e' : b = e ∨ b = it := by simpa using hb
        rcases e' with z | z
        · rw [z]; exact hel
        · rw [z]; exact hil
      rw [upd_ne (Nat.ne_of_lt hb')]
      exact (hf b hb).1
  done := by
    intro X hP hw hK hc i pins s σ H E I hf st hg
    subst hP hw hK
    obtain ⟨⟨old, he⟩, hit, hne⟩ := st
    obtain ⟨f0, f1, f2, f3, f4, f5⟩ := hf it (by simp)
    exact enum_endS (I.ok.hd hc) hty he hit (Array.getElem?_eq_none hg) fun h' eb => ⟨rfl, I.turned (t' := s.toks) (fun b o hb q => eb b o hb q) f0 f1 f3 f4 f5⟩
  self := fun A i s Q E st h => let ⟨⟨_, he⟩, _⟩ := st; wpAny_pyIter_enum he h
def iEnumS (ta : TA) : TI := fun σ H R => ta σ H fun vs H1 => ∃ z, vs = [.str z] ∧ R (Ites z) H1
theorem pi_enumS {X : Cx} {e : Expr} {ta : TA} {p pos tpos : Pos} {elts : List Expr} {kk : Nat} (hg : Gl X "enumerate") (hm : X.mg "enumerate" = none) (ha : PA X [e] ta) (hs : starEach [e] X.env = [(false, eval e X.env)] := by rfl) :
    PI X (.Tuple elts kk tpos) (.Call (.Name "enumerate" p) [e] [] pos) (iEnumS ta) := by
  refine ⟨fun pins s σ H R I h => ?_⟩
  refine Call_ (ld_blt I hg hm boot_enumerate (PyProof.Rows.callWith_type1 (thn (ha.run pos pins s σ H _ I h) fun us s1 ⟨vs, H1, I1, r1, q1⟩ => ?_) hs rfl))
  obtain ⟨z, ex, q⟩ := q1
  subst ex
  cases r1 with
  | cons r rr =>
    cases rr
    obtain ⟨t, rfl⟩ := r
    refine call_enumerate_str fun h' he hit hsz hk => wpAny_pyIter_enum he ?_
    have I2 : Inv X pins σ H1 { s1 with heap := h' } := I1.kept (t' := s1.toks) hk
    have hty : strIterType z = "str_ascii_iterator" ∨ strIterType z = "str_iterator" := by
      unfold strIterType
      split
      · exact .inl rfl
      · exact .inr rfl
    refine ⟨s1.heap.objs.size + 1, [s1.heap.objs.size + 1, s1.heap.objs.size], _, _, H1, rfl, I2, turn_enumS (s1.heap.objs.size + 1) s1.heap.objs.size z t _ hty, ⟨⟨.none, he⟩, hit, Nat.succ_ne_self _⟩, fun b hb => ?_, q⟩
    have e' : b = s1.heap.objs.size + 1 ∨ b = s1.heap.objs.size := by simpa using hb
    have hle : s1.heap.objs.size ≤ b := by
      rcases e' with z | z
      · rw [z]; exact Nat.le_add_right _ _
      · rw [z]; exact Nat.le_refl _
    exact I1.fpOk hle (I1.hok.fresh hle)
theorem walk_enumS {z : Str} : Walk (Ites z) z.cps.size (fun _ => True) (YPair (fun i => some (.int (i : Nat))) (fun i => (z.cps.toList.map fun c => V.str ⟨#[c]⟩)[i]?)) := by
  refine ⟨fun i _ hi q => hi, fun _ q => Nat.le_refl _, fun i H v H' _ q y => ?_⟩
  obtain ⟨T, c, h1, h2, h3, h4⟩ := y
  exact ⟨T, .int (i : Nat), .str ⟨#[c]⟩, h1, h2, h3, rfl, by show (z.cps.toList.map fun c => V.str ⟨#[c]⟩)[i]? = _; rw [List.getElem?_map, Array.getElem?_toList, h4]; rfl⟩
section
variable {X : Cx}
/-- tuple(text) -/
theorem call_tuple_str (hc : X.calm = true) : CallR X (.type "tuple") (fun xs H Q => ∃ z, xs = [.str z] ∧ z.length ≤ sizeLine ∧ ∀ p, H p = none → Q (.ref p) (upd H p (.tup (z.cps.toList.map fun c => V.str ⟨#[c]⟩)))) := by
  intro pins s σ H xs us Q I r h
  obtain ⟨z, rfl, hz, q⟩ := h
  obtain ⟨u, rfl, t, rfl⟩ := vals1 r
  refine PySem.call_tuple_str (I.ok.hd hc) z t (fun h' tk acc hk hi => ?_) hz
  have I1 : Inv X pins σ H { s with heap := h', toks := tk } := I.kept (t' := tk) hk
  have rv : Vals (z.cps.toList.map fun c => V.str ⟨#[c]⟩) acc.toList := by
    refine vals_of_at (by rw [List.length_map, Array.length_toList, Array.length_toList, hi.1]) fun j x u e1 e2 => ?_
    rw [Array.getElem?_toList] at e2
    obtain ⟨c, t, ec, rfl⟩ := hi.2 j u e2
    rw [List.getElem?_map, Array.getElem?_toList, ec] at e1
    cases e1
    exact ⟨t, rfl⟩
  have I2 : Inv X pins σ (upd H h'.objs.size (.tup (z.cps.toList.map fun c => V.str ⟨#[c]⟩))) { s with heap := h'.push { cls := .type "tuple", data := .seq acc }, toks := tk } :=
    I1.laid (t' := tk) (fun b o e => Heap.get?_push_of_some _ e) (Nat.le_refl _) (show ObjOk X.prog X.w _ _ _ (.tup _) from ⟨by rw [List.length_map, Array.length_toList]; exact hz, acc.toList, rv, by
      have := IsTup.new h' acc
      simpa using this⟩)
  exact ⟨.ref h'.objs.size, _, I2, rfl, q _ (I1.hok.fresh (Nat.le_refl _))⟩
end
end Gd
end

section
set_option maxRecDepth 100000
set_option maxHeartbeats 2000000
/-! Items of data, lists of data that comprehensions make. -/
namespace Gd
open PySem PySem.Spec PyProof.Rows L2
theorem Reps.atI {M : List Addr} {H : Hp} {vs : List V} {ds : List PyData} {i : Int} {d : PyData} (r : Reps M H vs ds) (e : L2.atI ds i = some d) : ∃ v, L2.atI vs i = some v ∧ Rep M H v d := by
  have l := r.length
  unfold L2.atI at e ⊢
  rw [l]
  obtain ⟨j, ej, e⟩ := Option.bind_eq_some_iff.mp e
  rw [ej]
  exact r.at' e
theorem atI_last {α : Type} {xs : List α} (h : 0 < xs.length) : ∃ d, L2.atI xs (-1) = some d ∧ d ∈ xs := by
  unfold L2.atI L2.ixN
  rw [if_neg (by decide)]
  have e : ∀ (c : Prop) [Decidable c], c → (if c then some ((-1 : Int) + xs.length).toNat else none) = some (xs.length - 1) := fun c _ hc => by
    rw [if_pos hc]; congr 1; omega
  rw [e _ (by omega)]
  exact ⟨xs[xs.length - 1], by simp [h], List.getElem_mem _⟩
section
variable {M : List Addr} {σ : L2.St} {H : Hp} {te tf ti : TE} {ta : TA} {d e : PyData} {ds : List PyData}
theorem ev_ix {K : PySem.W.Frag} {i : Int} (h : EvE M te σ H (.tuple ds)) (hi : ∀ H1 (R : V → Hp → Prop), R (.int i) H1 → ti σ H1 R) (e : L2.atI ds i = some d) : EvE M (tOp (rIxT K) te ti) σ H d := fun H1 k R q =>
  h H1 k _ fun v H2 k2 r => hi _ _ (by
    cases r with
    | tup n e1 z =>
      obtain ⟨v, ev, rv⟩ := z.atI e
      exact ⟨_, _, i, v, rfl, rfl, .inl (.inl e1), ev, q v H2 k2 rv⟩)
theorem ev_tupS {x : Str} (l : Live M H) (h : EvE M te σ H (.str x)) (z : x.length ≤ 100000) :
    EvE M (tCB (fun xs H Q => ∃ z, xs = [V.str z] ∧ z.length ≤ sizeLine ∧ ∀ p, H p = none → Q (.ref p) (upd H p (.tup (z.cps.toList.map fun c => V.str ⟨#[c]⟩)))) (tCons te tNil)) σ H (.tuple ((x.cps.toList.map fun c => (⟨#[c]⟩ : Str)).map .str)) := fun H1 k R q =>
  h H1 k _ fun v H2 k2 r => by
    cases r
    refine ⟨x, rfl, by rw [sizeLine_eq]; omega, fun p hp => q _ _ (k2.trans (Kp.new hp)) (.tup (((l.grow k).grow k2).fresh hp) upd_same ?_)⟩
    have := Reps.of_strs (M := M) (H := upd H2 p (.tup (x.cps.toList.map fun c => V.str ⟨#[c]⟩))) (x.cps.toList.map fun c => (⟨#[c]⟩ : Str))
    rw [List.map_map] at this
    exact this
def rTupOf (K : PySem.W.Frag) : List V → Hp → VK → Prop := fun xs H Q => ∃ p ys, xs = [V.ref p] ∧ ((SqL K H p ys ∧ ∀ l, H l = none → Q (.ref l) (upd H l (.tup ys))) ∨ (SqT K H p ys ∧ Q (.ref p) H))
theorem call_tuple_ofK {X : Cx} {K : PySem.W.Frag} (h : X.K = K) : CallR X (.type "tuple") (rTupOf K) := h ▸ call_tuple_of
theorem sl_listK {X : Cx} {K : PySem.W.Frag} (h : X.K = K) : SlR X (rSlL K) := h ▸ sl_list
/-- tuple(list[lo:hi]) -/
theorem ev_tupL {K : PySem.W.Frag} {i : Nat} {p : Addr} {vs : List V} {tl th : TO} {lo hi : Option Int} (l : Live M H) (ei : σ[i]? = some (some (.ref p))) (ep : H p = some (.lst vs)) (r : Reps M H vs ds) (hl : ∀ H1 (R : Option Int → Hp → Prop), R lo H1 → tl σ H1 R) (hh : ∀ H1 (R : Option Int → Hp → Prop), R hi H1 → th σ H1 R) :
    ∃ a b, EvE M (tCB (rTupOf K) (tCons (tSl (rSlL K) (tVar i) tl th) tNil)) σ H (.tuple ((ds.drop a).take b)) := by
  refine ⟨HT.sIx ds.length 0 lo, HT.sIx ds.length ds.length hi - HT.sIx ds.length 0 lo, fun H1 k R q => ⟨_, ei, hl _ _ (hh _ _ ⟨p, vs, rfl, .inl (.inl (k _ _ List.not_mem_nil ep)), fun b hb => ?_⟩)⟩⟩
  refine ⟨b, _, rfl, .inl ⟨.inl (.inl upd_same), fun c hc => ?_⟩⟩
  have kk := (Kp.new (M := []) hb (o := .lst (cutV vs lo hi))).trans (Kp.new hc (o := .tup (cutV vs lo hi)))
  refine q _ _ kk (.tup ((((l.grow k).grow (Kp.new hb))).fresh hc) upd_same ?_)
  unfold cutV
  rw [← r.length] at *
  exact ((r.drop _).take _).keep ((k.trans kk).same)
end
section
variable {J : It} {n : Nat} {G : Hp → Prop} {Y : Nat → Hp → V → Hp → Prop} {g : TG} {te : TE} {vs : List Nat} {σ : L2.St} {H1 : Hp} {D : Addr} {Qd : Hp → Prop} {M : List Addr} {P : PyData → Prop}
/-- items that read as data, found without a change -/
theorem lc_data (w : Walk J n G Y) (hn : n ≤ sizeLine) (hD : H1 D = none) (hG : ∀ H, Kp [] H1 H → G H)
    (hs : ∀ i x H H', i < n → Kp [] H1 H → (∃ o, H D = some o) → Y i H x H' → ∀ Kt : V → Hp → Prop, (∀ y d H4, Kp [] H H4 → Rep (D :: M) H4 y d → P d → Kt y H4) → g x (wipe σ vs) H' fun σ2 H2 => wipe σ2 vs = wipe σ vs ∧ te σ2 H2 Kt)
    (hd : ∀ acc ds H, Kp [] H1 H → H D = some (.lst acc) → acc.length = n → Reps (D :: M) H acc ds → (∀ y ∈ ds, P y) → Qd H) :
    ∃ W : Nat → Nat → Hp → Prop, (∃ m, W 0 m (upd H1 D (.lst []))) ∧ ∀ i m H, W i m H →
      (J.stop i H ∧ Qd H) ∨ (J.go i H ∧ ∃ Nx : Hp → Prop, (∀ H', Nx H' → ∃ m', m' < m ∧ W (i + 1) m' H') ∧ ∀ x H', J.yld i H x H' → g x (wipe σ vs) H' fun σ2 H2 => wipe σ2 vs = wipe σ vs ∧ tYes σ2 H2 fun b H3 =>
        if b = true then te σ2 H3 fun y H4 => ∃ acc, H4 D = some (.lst acc) ∧ acc.length < sizeLine ∧ Nx (upd H4 D (.lst (acc ++ [y]))) else Nx H3) := by
  refine lc_by w hn (fun i acc H => Kp [] H1 H ∧ H D = some (.lst acc) ∧ acc.length = i ∧ ∃ ds, Reps (D :: M) H acc ds ∧ ∀ y ∈ ds, P y) ⟨Kp.new hD, upd_same, rfl, [], .nil, nofun⟩ (fun i acc H _ p => hG H p.1) (fun i acc H p => ⟨p.2.2.1, p.2.1⟩) (fun i acc x H H' hi p y Kt q => ?_) fun acc H p => let ⟨a, b, c, ds, r, h⟩ := p; hd acc ds H a b c r h
  obtain ⟨k, ed, el, ds, r, hr⟩ := p
  refine hs i x H H' hi k ⟨_, ed⟩ y Kt fun y d H4 k4 ry py => ?_
  have e4 := k4 D _ List.not_mem_nil ed
  have kp : Kp (D :: M) H4 (upd H4 D (.lst (acc ++ [y]))) := Kp.put List.mem_cons_self
  refine q _ H4 e4 ⟨fun c o nc ec => ?_, upd_same, by simp [el], ds ++ [d], ((r.keep k4.same).append (.cons ry .nil)).keep kp, fun z hz => ?_⟩
  · rw [upd_ne (ne_of_none ec hD)]
    exact k4 c o nc (k c o nc ec)
  · rcases List.mem_append.mp hz with hz | hz
    · exact hr z hz
    · rw [List.mem_singleton.mp hz]; exact py
end
section
variable {K : PySem.W.Frag} {te0 te : TE} {g : TG} {vs : List Nat} {σ : L2.St} {H : Hp} {Q : VK} {M : List Addr} {P : PyData → Prop}
/-- [.. for x in t] -/
theorem lc_tupD {xs : List V} (h0 : ∀ R : V → Hp → Prop, (∀ a H1, Kp [] H H1 → H1 a = some (.tup xs) → R (.ref a) H1) → te0 σ H R) (hn : xs.length ≤ sizeLine)
    (hs : ∀ (m : Nat) x D H', xs[m]? = some x → Kp [] H H' → H D = none → (∃ o, H' D = some o) → ∀ Kt : V → Hp → Prop, (∀ y d H3, Kp [] H' H3 → Rep (D :: M) H3 y d → P d → Kt y H3) → g x (wipe σ vs) H' fun σ2 H2 => wipe σ2 vs = wipe σ vs ∧ te σ2 H2 Kt)
    (q : ∀ D acc ds H', Kp [] H H' → H D = none → H' D = some (.lst acc) → acc.length = xs.length → Reps (D :: M) H' acc ds → (∀ d ∈ ds, P d) → Q (.ref D) H') : tLc (iTup K te0) g tYes te vs σ H Q := by
  refine h0 _ fun a H1 k1 ha => ⟨a, rfl, ⟨xs, .inl (.inl ha)⟩, fun D hD => ?_⟩
  have nD : H D = none := by
    cases c : H D with
    | none => rfl
    | some o => have := k1 D o List.not_mem_nil c; rw [hD] at this; cases this
  refine lc_data (M := M) (P := P) (walk_tup (K := K) (a := a) (xs := xs)) hn hD (fun H' k => .inl (.inl (k a _ List.not_mem_nil ha))) (fun i x H' H2 hi k eD y Kt q => ?_) fun acc ds H' k e l r h => q D acc ds H' (k1.trans k) nD e l r h
  obtain ⟨rfl, ex⟩ := y
  exact hs i x D _ ex (k1.trans k) nD eD Kt q
/-- [.. for c in text] -/
theorem lc_strD {z : Str} (h0 : ∀ R : V → Hp → Prop, R (.str z) H → te0 σ H R) (hn : z.cps.size ≤ sizeLine)
    (hs : ∀ (m : Nat) c D H', z.cps[m]? = some c → Kp [] H H' → H D = none → (∃ o, H' D = some o) → ∀ Kt : V → Hp → Prop, (∀ y d H3, Kp [] H' H3 → Rep (D :: M) H3 y d → P d → Kt y H3) → g (.str ⟨#[c]⟩) (wipe σ vs) H' fun σ2 H2 => wipe σ2 vs = wipe σ vs ∧ te σ2 H2 Kt)
    (q : ∀ D acc ds H', Kp [] H H' → H D = none → H' D = some (.lst acc) → acc.length = z.cps.size → Reps (D :: M) H' acc ds → (∀ d ∈ ds, P d) → Q (.ref D) H') : tLc (iStr te0) g tYes te vs σ H Q := by
  refine h0 _ ⟨z, rfl, fun D hD => ?_⟩
  refine lc_data (M := M) (P := P) (walk_str (z := z)) hn hD (fun _ _ => trivial) (fun i x H' H2 hi k eD y Kt q => ?_) fun acc ds H' k e l r h => q D acc ds H' k hD e l r h
  obtain ⟨rfl, c, ec, rfl⟩ := y
  exact hs i c D _ ec k hD eD Kt q
end
end Gd
end

section
set_option maxRecDepth 100000
set_option maxHeartbeats 2000000
/-! sorted(list) of data of one shape. -/
namespace Gd
open PySem PySem.Spec PyProof.Rows L2
theorem each_of {M : List Addr} {H : Hp} : ∀ {us : List V} {its : List Value} {ds : List PyData}, Vals us its → Reps M H us ds → W.EachIs (fun u (b : V × PyData) => RelV b.1 u ∧ Rep M H b.1 b.2) its (us.zip ds)
  | _, _, _, .nil, .nil => .nil
  | _, _, _, .cons r rs, .cons z zs => .cons ⟨r, z⟩ (each_of rs zs)
theorem of_each {M : List Addr} {H : Hp} : ∀ {out : List Value} {cs : List (V × PyData)}, W.EachIs (fun u (b : V × PyData) => RelV b.1 u ∧ Rep M H b.1 b.2) out cs → Vals (cs.map Prod.fst) out ∧ Reps M H (cs.map Prod.fst) (cs.map Prod.snd)
  | _, _, .nil => ⟨.nil, .nil⟩
  | _, _, .cons h t => ⟨.cons h.1 (of_each t).1, .cons h.2 (of_each t).2⟩
theorem zip_snd {M : List Addr} {H : Hp} : ∀ {us : List V} {ds : List PyData}, Reps M H us ds → (us.zip ds).map Prod.snd = ds
  | _, _, .nil => rfl
  | _, _, .cons _ zs => by rw [List.zip_cons_cons, List.map_cons, zip_snd zs]
/-- the data in their sequence -/
def sortD (ds : List PyData) : List PyData := ds.mergeSort fun a b => !W.dataLt b a
def rSortD (K : PySem.W.Frag) : List V → Hp → VK → Prop := fun xs H Q => ∃ (M : List Addr) (a : Addr) (us : List V) (ds : List PyData), xs = [V.ref a] ∧ SqL K H a us ∧ Reps M H us ds ∧ W.AllAlike ds ∧ W.Sortable ds ∧ (∀ d ∈ ds, d.depth ≤ 60) ∧
  ∀ (p : Addr) (us' : List V), us'.length = us.length → Reps M H us' (sortD ds) → H p = none → Q (.ref p) (upd H p (.lst us'))
section
variable {X : Cx} {k : Nat}
theorem cr_sortedD {K : PySem.W.Frag} (hK : X.K = K) (hr : Room k X.A) : CallR X (.builtin "sorted") (rSortD K) := by
  subst hK
  intro pins s σ H vs ws Q I r h
  obtain ⟨M, a, us, ds, rfl, hs, rp, al, so, dp, q⟩ := h
  obtain ⟨its, rv, hl, hz⟩ := I.list hs
  rw [Vals.ref1 r]
  have un := hr.un
  have hm := zip_snd rp
  have lu := rp.length
  have e := each_of rv rp
  refine W.sorted_data (enc := Prod.snd) (bs := us.zip ds) hl.isList e (e.mono fun u b ⟨h1, h2⟩ => let ⟨as, z, _⟩ := Rep.reads I h2 h1; ⟨as, z⟩) (by rw [hm]; exact al) (by rw [hm]; exact so) (by rw [List.length_zip, ← lu, Nat.min_self]; exact hz) (fun b hb => ?_) fun out ho eo => ?_
  · have : b.2 ∈ ds := hm ▸ List.mem_map.mpr ⟨b, hb, rfl⟩
    have := dp _ this
    omega
  · obtain ⟨v1, r1⟩ := of_each eo
    have es : ((us.zip ds).mergeSort (W.dataLe false Prod.snd)).map Prod.snd = sortD ds := by
      have t := W.sort_maps (r := W.dataLe false (Prod.snd : V × PyData → PyData)) (s := fun a b => !W.dataLt b a) (l := us.zip ds) Prod.snd fun a _ b _ => rfl
      rw [hm] at t
      exact t
    rw [es] at r1
    have l1 := r1.length
    have l2 : (sortD ds).length = ds.length := List.length_mergeSort _
    obtain ⟨ep, he'⟩ := PyProof.Rows.sortedAll_at s.heap its out.toArray
    exact ⟨.ref _, upd H (s.heap.objs.size + 1) (.lst _), I.laid (t' := s.toks) (fun _ _ => PyProof.Rows.sortedAll_old) (Nat.le_succ _) ⟨by rw [l1, l2, ← lu]; exact hz, out, ep, v1, he'⟩, rfl, q _ _ (by rw [l1, l2, lu]) r1 (I.hok.fresh (Nat.le_succ _))⟩
end
theorem sortD_perm (ds : List PyData) : (sortD ds).Perm ds := List.mergeSort_perm _ _
end Gd
end

section
set_option maxRecDepth 100000
set_option maxHeartbeats 4000000
/-! set(list of whole numbers); a list beside []. -/
namespace Gd
open PySem PySem.Spec PyProof.Rows L2
/-- the set as it is made -/
abbrev nu (w : World) : Obj := { cls := .type "set", dict := none, data := .set #[] 0 (.fresh 0 0 (!w.params.followText "set-order")) }
section
variable {P : Program} {w : World} {A : Around} {E : Value → Shared → Prop} {s : Shared}
/-- what set.__init__ leaves -/
abbrev Fill (w : World) (s : Shared) (ns : List Int) (E : Value → Shared → Prop) : Result → Shared → Prop := wants (fun r z => r = .none ∧ ∃ g k c, z = { s with heap := g, toks := k } ∧ SetR w g s.heap.objs.size (fun j => decide (j ∈ ns)) c ∧ c ≤ ns.length ∧ ∀ b o, s.heap.get? b = some o → g.get? b = some o) E
theorem set_of_ints {l : Addr} {its : Array Value} {ns : List Int} {G : Value → Shared → Prop} (off : A.handled = none) (hl : s.heap.IsList l its) (iv : IntsAre its.toList ns) (few : ns.length + 1 < scanBound)
    (go : ∀ (g : Heap) (k c : Nat), SetR w g s.heap.objs.size (fun j => decide (j ∈ ns)) c → c ≤ ns.length → (∀ b o, s.heap.get? b = some o → g.get? b = some o) → G (.ref s.heap.objs.size) { s with heap := g, toks := k }) :
    wpAny (model P w) A (call (.type "set") [.ref l]) G E s := by
  have n_its : its.size = ns.length := by rw [← iv.length, Array.length_toList]
  have at0 : (s.heap.push (nu w)).get? s.heap.objs.size = some (nu w) := Heap.get?_push_size _ rfl
  have big : (s.heap.push (nu w)).objs.size = s.heap.objs.size + 1 := Heap.size_push ..
  obtain ⟨cm, tm, hmro⟩ := F.called_set.mro
  have k1 := F.called_set.made; have k2 := F.called_set.sub
  refine wpAny_call (codeAny_of_tree (show wpAny _ _ (callAny (.type "set") _) _ _ _ from wpAny_pure ⟨Code.quiet_builtin _ (by decide +kernel), codeAny_builtin F.entry_type_call ?_⟩))
  rw [Around.under_plain (weight_type_call_type "set" [.ref l] []) rfl]
  have k3 := F.called_set.notType; have k4 := F.called_set.canCreate; have k5 := F.typeCall_set_1 (.ref l)
  repeat (any_goals (first | assumption | wp_step))
  refine codeAny_mono (code_set_led1 (.ref l) (E := E) (Q₁ := fun x z => x = .ref s.heap.objs.size ∧ z = { s with heap := s.heap.push (nu w) }) ⟨rfl, rfl⟩) fun r z hr => ?_
  match r, hr with
  | .error e, hr => exact hr
  | .ok (.ret x), hr =>
    obtain ⟨rfl, rfl⟩ := hr
    have ty : Shared.TypeIs { s with heap := s.heap.push (nu w) } (.ref s.heap.objs.size) "set" := ⟨_, at0, rfl⟩
    have k6 := F.called_set.init.lookup; have k7 := F.called_set.init.bind (.ref s.heap.objs.size)
    repeat (any_goals (first | assumption | wp_step))
    refine codeAny_mono (codeAny_call_builtin (R := Fill w s ns E) F.called_set.init.plain F.entry_set_init (check_set_init_1 ty ?_)) fun r2 z2 hr2 => ?_
    · obtain ⟨⟨c0, d0, dt, sl⟩, hol, hc, m, hd⟩ := hl
      simp only at hc hd
      subst hc hd
      have lk := Heap.get?_push_of_some (nu w) hol
      have at1 : (s.heap.push (nu w)).IsList l its := ⟨_, lk, rfl, m, rfl⟩
      have low : l < s.heap.objs.size := Heap.lt_size hol
      have p1 := PySem.F.sub_list_set; have p2 := PySem.F.sub_list_frozenset
      have p3 : (Value.type "list" == Value.type "dict") = false := by decide
      unfold Builtin.«set.__init__» noKeywords Builtin.Frozenset.updateFrom
      generalize hPI : pyIter = PI
      wp_walk
      subst hPI
      refine wpAny_pyIter_list at1 (wpAny_bind (wpAny_runValue ?_))
      have off3 : A.in1.in1.in1.handled = none := by simp [off]
      have apart : l ≠ (s.heap.push (nu w)).objs.size := by rw [big]; exact Nat.ne_of_lt (Nat.lt_succ_of_lt low)
      have mine : s.heap.objs.size ∉ [(s.heap.push (nu w)).objs.size, l] := fun z => by
        rcases List.mem_cons.mp z with z | z
        · exact absurd (z.trans big) (Nat.ne_of_lt (Nat.lt_succ_self _))
        · exact absurd (List.mem_singleton.mp z) (Nat.ne_of_gt low)
      refine set_update_ints ((Walks.list off3 _ l apart its).toS) s.heap.objs.size mine ns n_its few (fun i v hv => ?_) (its.size - 0) 0 _ (by omega) (Nat.zero_le _) ⟨⟨_, Heap.get?_push_size _ rfl, rfl, rfl⟩, at1.push _⟩
        ⟨0, Nat.le_refl 0, setR_new_at (Heap.get?_push_of_some _ at0)⟩ fun z c mv hc hS => ?_
      · obtain ⟨t, e⟩ := iv.int_at i v (by rw [Array.getElem?_toList]; exact hv)
        have hi : i < ns.length := by rw [← n_its]; exact (Array.getElem?_eq_some_iff.mp hv).1
        exact ⟨ns[i], t, List.getElem?_eq_getElem hi, by rw [e, List.getD_eq_getElem?_getD, List.getElem?_eq_getElem hi]; rfl⟩
      · obtain ⟨g, g2, d2, k, o2⟩ := z
        obtain rfl : g2 = s.gens := mv.gens
        obtain rfl : d2 = s.drawn := mv.drawn
        obtain rfl : o2 = s.os := mv.os
        refine wpAny_pure (show wpAny _ _ (ret Value.none) _ _ _ from wpAny_pure ⟨rfl, g, k, c, rfl, hS, by omega, fun b o e => ?_⟩)
        have hb := Heap.lt_size e
        exact mv.heap b o (fun z => by
          rcases List.mem_cons.mp z with z | z
          · exact absurd z (Nat.ne_of_lt hb)
          · exact absurd ((List.mem_singleton.mp z).trans big) (Nat.ne_of_lt (Nat.lt_succ_of_lt hb))) (Heap.get?_push_of_some _ (Heap.get?_push_of_some _ e))
    · match r2, hr2 with
      | .error e, hr2 => exact hr2
      | .ok (.ret x), hr2 =>
        obtain ⟨rfl, g, k, c, rfl, hS, hc, kp⟩ := hr2
        repeat (any_goals (first | assumption | wp_step))
        exact go g k c hS hc kp
end
def rSetI (K : PySem.W.Frag) (w : World) : List V → Hp → VK → Prop := fun xs H Q => ∃ (a : Addr) (ns : List Int), xs = [V.ref a] ∧ SqL K H a (ns.map V.int) ∧ ns.length < 1000 ∧
  ∀ (p : Addr) (c : Nat), H p = none → c ≤ ns.length → Q (.ref p) (upd H p (SetO w p (fun j => decide (j ∈ ns)) c))
/-- l != [] -/
def rNeLE : R2 := fun x y H Q => ∃ a b xs, x = .ref a ∧ y = .ref b ∧ H a = some (.lst xs) ∧ H b = some (.lst []) ∧ Q (.bl (!xs.isEmpty)) H
section
variable {X : Cx} {k : Nat}
theorem cr_setI {K : PySem.W.Frag} {w : World} (hK : X.K = K) (hw : X.w = w) (hc : X.calm = true) : CallR X (.type "set") (rSetI K w) := by
  subst hK hw
  intro pins s σ H xs us Q I r h
  obtain ⟨a, ns, rfl, hs, few, q⟩ := h
  obtain ⟨its, rv, hl, _⟩ := I.list hs
  rw [Vals.ref1 r]
  refine set_of_ints (ns := ns) (I.ok.hd hc) hl.isList (by simpa using rv.ints) (by unfold scanBound; omega) fun g t c R hc' kp => ?_
  exact ⟨.ref _, _, I.laid (t' := t) kp (Nat.le_refl _) (setO_new R), rfl, q _ c (I.hok.fresh (Nat.le_refl _)) hc'⟩
theorem op_neLE (hr : Room k X.A) : OpR X (compareOp .NotEq) rNeLE := by
  intro pins s σ H x y v u Q I rx ry h
  obtain ⟨a, b, xs, rfl, rfl, ha, hb, q⟩ := h
  cases rx
  cases ry
  obtain ⟨its, r1, p1, _⟩ := I.list (.inl (.inl ha))
  obtain ⟨its2, r2, p2, _⟩ := I.list (.inl (.inl hb))
  cases r2
  have un := hr.un
  cases its with
  | nil =>
    cases r1
    exact SeqAt.RcNeAt.lists (e := fun _ => true) p1.isList p2.isList rfl (by omega) (fun j h1 _ => absurd h1 (by simp)) _ _ _ _ ⟨.bl _, H, I, rfl, q⟩
  | cons u us =>
    cases r1
    exact SeqAt.RcNeAt.lists_lengths p1.isList p2.isList (by simp) (by omega) _ _ _ _ ⟨.bl _, H, I, rfl, q⟩
theorem ix_listK {K : PySem.W.Frag} (h : X.K = K) : IxR X (rIxL K) := h ▸ ix_list
theorem ix_tupK {K : PySem.W.Frag} (h : X.K = K) : IxR X (rIxT K) := h ▸ ix_tup
end
end Gd
end

section
set_option maxRecDepth 100000
set_option maxHeartbeats 2000000
/-! isinstance(x, bool); slices of tuples or lists; all(..) over zip of two lists. -/
namespace Gd
open PySem PySem.Spec PyProof.Rows L2 RZ
def isBool : PyData → Bool
  | .bool _ => true
  | _ => false
theorem kit_bool {K : W.Frag} : ∀ d : PyData, W.kitOne K (.type (tyN d)) (.type "bool") = some (isBool d)
  | .none | .bool _ | .int _ | .str _ | .list _ | .tuple _ | .dict _ => by first | rfl | decide +kernel | (unfold W.kitOne; decide +kernel)
section
variable {X : Cx} {k : Nat}
theorem call_isBool : CallR X (.builtin "isinstance") (rIs isBool "bool") := fun pins s σ H xs us Q I r h =>
  let ⟨_, v, d, e, rp, q⟩ := h; call_isi pins s σ H xs us Q I r ⟨v, _, _, _, _, e, .ty _, rp.ty, kit_bool d, q⟩
theorem sl_TL {K : PySem.W.Frag} (h : X.K = K) : SlR X (fun x lo hi H Q => rSlA K x lo hi H Q ∨ rSlL K x lo hi H Q) := h ▸ SlR.or sl_tupA sl_list
end
section
variable {K : PySem.W.Frag} {te0 te : TE} {g : TG} {vs : List Nat} {σ : L2.St} {H : Hp} {Q : VK}
/-- all([.. for x, y in zip(l, m)]), two lists -/
theorem all_zipL {ta : TA} {a : Addr} {xs ys : List V} (b : Nat → Bool) (h0 : ∀ R : List V → Hp → Prop, (∀ a2 H1, Kp [] H H1 → H1 a = some (.lst xs) → H1 a2 = some (.lst ys) → R [.ref a, .ref a2] H1) → ta σ H R) (hn : xs.length ≤ sizeLine)
    (hs : ∀ (m : Nat) x y T H', xs[m]? = some x → ys[m]? = some y → Kp [] H H' → H' T = some (.tup [x, y]) → ∀ Kt : V → Hp → Prop, (∀ H3, Kp [] H' H3 → Kt (.bl (b m)) H3) → g (.ref T) (wipe σ vs) H' fun σ2 H2 => wipe σ2 vs = wipe σ vs ∧ te σ2 H2 Kt)
    (q : ∀ H', Kp [] H H' → Q (.bl (((List.range (min xs.length ys.length)).map b).all id)) H') : tCB (rAll K) (tCons (tLc (iZipA K ta) g tYes te vs) tNil) σ H Q := by
  refine h0 _ fun a2 H1 k1 ha hb => ⟨a, a2, xs, ys, rfl, .inl ⟨.inl (.inl ha), .inl (.inl hb), fun D hD => ?_⟩⟩
  refine lc_bools (walk_zip (K := K) (a := a) (b := a2) (xs := xs) (ys := ys) rfl) (by omega) hD b (fun H' k => ⟨.inl (.inl (k a _ List.not_mem_nil ha)), .inl (.inl (k a2 _ List.not_mem_nil hb))⟩) (fun i x H' H2 hi k y Kt q => ?_) fun H' k e => ?_
  · obtain ⟨T, x, y, rfl, nT, rfl, ex, ey⟩ := y
    exact hs i x y T _ ex ey ((k1.trans k).trans (Kp.new nT)) upd_same Kt fun H3 k3 => q H3 ((Kp.new nT).trans k3)
  · exact ⟨D, _, rfl, .inl (.inl (map_bl _ _ ▸ e)), q H' (k1.trans k)⟩
end
section
variable {J : It} {n : Nat} {G : Hp → Prop} {Y : Nat → Hp → V → Hp → Prop} {g : TG} {te : TE} {vs : List Nat} {σ : L2.St} {H1 : Hp} {D : Addr} {Qd : Hp → Prop} {M : List Addr}
/-- the i-th item reads as e i -/
theorem lc_mapD (w : Walk J n G Y) (hn : n ≤ sizeLine) (hD : H1 D = none) (e : Nat → PyData) (hG : ∀ H, Kp [] H1 H → G H)
    (hs : ∀ i x H H', i < n → Kp [] H1 H → (∃ o, H D = some o) → Y i H x H' → ∀ Kt : V → Hp → Prop, (∀ y H4, Kp [] H H4 → Rep (D :: M) H4 y (e i) → Kt y H4) → g x (wipe σ vs) H' fun σ2 H2 => wipe σ2 vs = wipe σ vs ∧ te σ2 H2 Kt)
    (hd : ∀ acc H, Kp [] H1 H → H D = some (.lst acc) → Reps (D :: M) H acc ((List.range n).map e) → Qd H) :
    ∃ W : Nat → Nat → Hp → Prop, (∃ m, W 0 m (upd H1 D (.lst []))) ∧ ∀ i m H, W i m H →
      (J.stop i H ∧ Qd H) ∨ (J.go i H ∧ ∃ Nx : Hp → Prop, (∀ H', Nx H' → ∃ m', m' < m ∧ W (i + 1) m' H') ∧ ∀ x H', J.yld i H x H' → g x (wipe σ vs) H' fun σ2 H2 => wipe σ2 vs = wipe σ vs ∧ tYes σ2 H2 fun b H3 =>
        if b = true then te σ2 H3 fun y H4 => ∃ acc, H4 D = some (.lst acc) ∧ acc.length < sizeLine ∧ Nx (upd H4 D (.lst (acc ++ [y]))) else Nx H3) := by
  refine lc_by w hn (fun i acc H => Kp [] H1 H ∧ H D = some (.lst acc) ∧ Reps (D :: M) H acc ((List.range i).map e)) ⟨Kp.new hD, upd_same, .nil⟩ (fun i acc H _ p => hG H p.1) (fun i acc H p => ⟨by rw [p.2.2.length]; simp, p.2.1⟩) (fun i acc x H H' hi p y Kt q => ?_) fun acc H p => hd acc H p.1 p.2.1 p.2.2
  obtain ⟨k, ed, r⟩ := p
  refine hs i x H H' hi k ⟨_, ed⟩ y Kt fun y H4 k4 ry => ?_
  have e4 := k4 D _ List.not_mem_nil ed
  have kp : Kp (D :: M) H4 (upd H4 D (.lst (acc ++ [y]))) := Kp.put List.mem_cons_self
  refine q _ H4 e4 ⟨fun c o nc ec => ?_, upd_same, ?_⟩
  · rw [upd_ne (ne_of_none ec hD)]
    exact k4 c o nc (k c o nc ec)
  · rw [List.range_succ, List.map_append]
    exact ((r.keep k4.same).append (.cons ry .nil)).keep kp
end
theorem map_at {α : Type} (f : PyData → α) : ∀ xs : List PyData, ((List.range xs.length).map fun m => f (xs.getD m .none)) = xs.map f
  | [] => rfl
  | x :: r => by
    rw [List.length_cons, List.range_succ_eq_map, List.map_cons, List.map_map, List.map_cons, ← map_at f r]
    rfl
end Gd
end

section
set_option maxRecDepth 100000
set_option maxHeartbeats 2000000
/-! a text times a number, tuple(range(n)), all(..) over a list. -/
namespace Gd
open PySem PySem.Spec PyProof.Rows L2
def rMulS : R2 := fun x y H Q => ∃ z n, x = .str z ∧ y = .int n ∧ MulOk z n ∧ Q (.str (Txt.mul z n)) H
section
variable {X : Cx}
theorem op_mulS : OpR X (binaryOp .Mult) rMulS := by
  intro pins s σ H x y v u Q I rx ry h
  obtain ⟨z, n, rfl, rfl, ok, q⟩ := h
  obtain ⟨t, rfl⟩ := rx
  obtain ⟨t2, rfl⟩ := ry
  exact SB.mul ok fun t' k => ⟨.str _, H, I.tok k, ⟨t', rfl⟩, q⟩
end
section
variable {M : List Addr} {σ : L2.St} {H : Hp}
theorem ev_mulS {z : Str} {n : Int} (ok : MulOk z n) : EvE M (tOp rMulS (tC (.str z)) (tC (.int n))) σ H (.str (Txt.mul z n)) := fun H1 k R q => ⟨z, n, rfl, rfl, ok, q _ H1 .refl (.str _)⟩
theorem rg_reps {Hz : Hp} : ∀ r : List Nat, Reps M Hz (r.map fun i => V.int (0 + (i : Nat))) ((r.map fun i => (0 + (i : Nat) : Int)).map .int)
  | [] => .nil
  | _ :: r => .cons (.int _) (rg_reps r)
theorem ev_tupRg {n : Int} (l : Live M H) (h0 : 0 ≤ n) (h1 : n ≤ 1000) : EvE M (tTupRg (tRg1 (tC (.int n)))) σ H (.tuple (((List.range n.toNat).map fun i => (0 + (i : Nat) : Int)).map .int)) := fun H1 k R q =>
  ⟨n, rfl, RgOk.of_le (by decide) (by omega) (by decide) h0, fun p hp => q _ _ (Kp.new hp) (.tup ((l.grow k).fresh hp) upd_same (by
    unfold rgV
    rw [Int.sub_zero]
    exact rg_reps _))⟩
end
section
variable {K : PySem.W.Frag} {te0 te : TE} {g : TG} {vs : List Nat} {σ : L2.St} {H : Hp} {Q : VK}
/-- all([.. for x in l]), l a list -/
theorem all_list {a : Addr} {xs : List V} (b : Nat → Bool) (h0 : ∀ R : V → Hp → Prop, R (.ref a) H → te0 σ H R) (ha : H a = some (.lst xs)) (hn : xs.length ≤ sizeLine)
    (hs : ∀ (m : Nat) x H', xs[m]? = some x → Kp [] H H' → ∀ Kt : V → Hp → Prop, (∀ H3, Kp [] H' H3 → Kt (.bl (b m)) H3) → g x (wipe σ vs) H' fun σ2 H2 => wipe σ2 vs = wipe σ vs ∧ te σ2 H2 Kt)
    (q : ∀ H', Kp [] H H' → Q (.bl (((List.range xs.length).map b).all id)) H') : tCB (rAll K) (tCons (tLc (iList K te0) g tYes te vs) tNil) σ H Q := by
  refine h0 _ ⟨a, rfl, ⟨xs, .inl (.inl ha)⟩, fun D hD => ?_⟩
  refine lc_bools (walk_list (K := K) (a := a) (xs := xs)) hn hD b (fun H' k => .inl (.inl (k a _ List.not_mem_nil ha))) (fun i x H' H2 hi k y Kt q => ?_) fun H' k e => ?_
  · obtain ⟨rfl, ex⟩ := y
    exact hs i x _ ex k Kt q
  · exact ⟨D, _, rfl, .inl (.inl (map_bl _ _ ▸ e)), q H' k⟩
end
section
variable {K : PySem.W.Frag} {te : TE} {ta : TA} {g : TG} {vs : List Nat} {σ : L2.St} {H : Hp} {Q : VK} {M : List Addr} {P : PyData → Prop} {ds : List PyData}
/-- [.. for x in (a, b, ..)] -/
theorem lc_dispD (ev : EvL M ta σ H ds) (hl : ds.length ≤ 1000)
    (hs : ∀ (m : Nat) x d D H', ds[m]? = some d → Rep (D :: M) H' x d → Kp [] H H' → H D = none → (∃ o, H' D = some o) → ∀ Kt : V → Hp → Prop, (∀ y e H3, Kp [] H' H3 → Rep (D :: M) H3 y e → P e → Kt y H3) → g x (wipe σ vs) H' fun σ2 H2 => wipe σ2 vs = wipe σ vs ∧ te σ2 H2 Kt)
    (q : ∀ D acc es H', Kp [] H H' → H D = none → H' D = some (.lst acc) → acc.length = ds.length → Reps (D :: M) H' acc es → (∀ d ∈ es, P d) → Q (.ref D) H') : tLc (iTup K (tTup ta)) g tYes te vs σ H Q := by
  refine ev.run fun us H2 k2 r2 => ?_
  have lu := r2.length
  refine ⟨by rw [lu, sizeLine_eq]; omega, fun t ht => ⟨t, rfl, ⟨us, .inl (.inl upd_same)⟩, fun D hD => ?_⟩⟩
  have k3 : Kp [] H (upd H2 t (.tup us)) := k2.trans (Kp.new ht)
  have et : (upd H2 t (.tup us)) t = some (.tup us) := upd_same
  have r3 := r2.keep (Kp.new ht (M := M) (o := .tup us))
  generalize upd H2 t (.tup us) = H3 at k3 et r3 hD
  have nD : H D = none := by
    cases c : H D with
    | none => rfl
    | some o => have := k3 D o List.not_mem_nil c; rw [hD] at this; cases this
  refine lc_data (M := M) (P := P) (walk_tup (K := K) (a := t) (xs := us)) (by rw [lu, sizeLine_eq]; omega) hD (fun H' k => .inl (.inl (k t _ List.not_mem_nil et))) (fun i x H' H4 hi k eD y Kt q => ?_) fun acc es H' k e l r h => q D acc es H' (k3.trans k) nD e (by rw [l, lu]) r h
  obtain ⟨rfl, ex⟩ := y
  obtain ⟨d, ed, rd⟩ := r3.at ex
  exact hs i x d D _ ed ((rd.more hD).keep k.same) (k3.trans k) nD eD Kt q
end
end Gd
end

section
set_option maxRecDepth 100000
set_option maxHeartbeats 2000000
/-! Readings over data: what the slots hold and what lists and dicts that may change contain, without addresses. -/
namespace Ab
open PySem PySem.Spec PyProof.Rows L2 Gd
/-- data; a list or dict that may change, by its number; a pair with such; a list of data that stays as it is -/
inductive AV where
  | im (d : PyData) | mu (i : Nat) | pr (x y : AV) | wl (xs : List PyData)
inductive Cell where
  | lst (xs : List AV) | dk (kvs : List (Key × AV)) | dt (kvs : List (List Key × AV))
  /-- a dict while it is walked -/
  | fz (o : Obj) (us : List (Key × V)) (kvs : List (Key × AV))
abbrev Store := List Cell
abbrev Slots := List (Option AV)
/-- N: lists that others are making -/
def RV (n : Nat) (N M : List Addr) (H : Hp) : V → AV → Prop
  | v, .im d => Rep (M ++ N) H v d
  | v, .mu i => i < n ∧ ∃ a, M[i]? = some a ∧ v = .ref a
  | v, .pr x y => ∃ a u w, v = .ref a ∧ a ∉ M ++ N ∧ H a = some (.tup [u, w]) ∧ RV n N M H u x ∧ RV n N M H w y
  | v, .wl xs => ∃ a us, v = .ref a ∧ a ∉ M ++ N ∧ H a = some (.lst us) ∧ Reps (M ++ N) H us xs
abbrev RVs (n : Nat) (N M : List Addr) (H : Hp) : List V → List AV → Prop := Paired (RV n N M H)
abbrev RKs {κ : Type} (n : Nat) (N M : List Addr) (H : Hp) : List (κ × V) → List (κ × AV) → Prop := Paired fun p q => p.1 = q.1 ∧ RV n N M H p.2 q.2
def RC (n : Nat) (N M : List Addr) (H : Hp) (a : Addr) : Cell → Prop
  | .lst xs => ∃ us, H a = some (.lst us) ∧ RVs n N M H us xs
  | .dk kvs => ∃ us, H a = some (.dK us) ∧ RKs n N M H us kvs
  | .dt kvs => ∃ us, H a = some (.dT us) ∧ RKs n N M H us kvs
  | .fz o us kvs => H a = some (.frz o (.dK us)) ∧ RKs n N M H us kvs
structure Rel (N M : List Addr) (H : Hp) (m : Store) : Prop where
  nd : M.Nodup
  len : M.length = m.length
  cell : ∀ i a c, M[i]? = some a → m[i]? = some c → RC i N M H a c
  there : ∀ a ∈ N, ∃ o, H a = some o
def SR (N M : List Addr) (H : Hp) (σ : L2.St) (ρ : Slots) : Prop := σ.length = ρ.length ∧ ∀ (i : Nat) (d : AV), ρ[i]? = some (some d) → ∃ v : V, σ[i]? = some (some v) ∧ RV M.length N M H v d
/-- later: more lists that may change, all else as it was -/
structure Ext (M : List Addr) (H : Hp) (M' : List Addr) (H' : Hp) : Prop where
  pre : M <+: M'
  kp : Kp M H H'
  new : ∀ a, a ∈ M' → a ∉ M → H a = none
section
variable {N M M' M1 M2 : List Addr} {H H' H1 H2 : Hp} {m : Store} {n : Nat}
theorem Ext.refl : Ext M H M H := ⟨List.prefix_refl _, .refl, fun _ a b => absurd a b⟩
theorem Ext.sub (e : Ext M H M' H') : ∀ a ∈ M, a ∈ M' := fun a h => e.pre.subset h
theorem Ext.none (e : Ext M H M1 H1) {a : Addr} (n : a ∉ M) (h : H1 a = none) : H a = none := by
  cases c : H a with
  | none => rfl
  | some o => rw [e.kp a o n c] at h; cases h
theorem Ext.trans (e : Ext M H M1 H1) (f : Ext M1 H1 M2 H2) : Ext M H M2 H2 := by
  refine ⟨e.pre.trans f.pre, fun b o nb hb => ?_, fun a h1 h2 => ?_⟩
  · refine f.kp b o (fun z => ?_) (e.kp b o nb hb)
    have := e.new b z nb
    rw [this] at hb; cases hb
  · by_cases c : a ∈ M1
    · exact e.new a c h2
    · exact e.none h2 (f.new a h1 c)
theorem Ext.len (e : Ext M H M' H') : M.length ≤ M'.length := e.pre.length_le
theorem Ext.get (e : Ext M H M' H') {i : Nat} {a : Addr} (h : M[i]? = some a) : M'[i]? = some a := by
  obtain ⟨t, rfl⟩ := e.pre
  rw [List.getElem?_append_left (List.getElem?_eq_some_iff.mp h).1]; exact h
theorem Ext.out (e : Ext M H M' H') {b : Addr} {o : HO} (hb : H b = some o) (nb : b ∉ M ++ N) : b ∉ M' ++ N := fun z => by
  rcases List.mem_append.mp z with z | z
  · have := e.new b z fun q => nb (List.mem_append_left _ q)
    rw [this] at hb; cases hb
  · exact nb (List.mem_append_right _ z)
theorem Rep.ext {v : V} {d : PyData} (e : Ext M H M' H') (r : Rep (M ++ N) H v d) : Rep (M' ++ N) H' v d := by
  have r2 : Rep (M' ++ N) H v d := Gd.Rep.swap (fun b o hb nb => e.out hb nb) r
  exact Gd.Rep.keep (fun b o hb eb => e.kp b o (fun z => hb (List.mem_append_left _ (e.sub b z))) eb) r2
theorem Reps.ext {v : List V} {d : List PyData} (e : Ext M H M' H') (r : Reps (M ++ N) H v d) : Reps (M' ++ N) H' v d := by
  have r2 : Reps (M' ++ N) H v d := Gd.Reps.swap (fun b o hb nb => e.out hb nb) r
  exact Gd.Reps.keep (fun b o hb eb => e.kp b o (fun z => hb (List.mem_append_left _ (e.sub b z))) eb) r2
theorem RV.ext (e : Ext M H M' H') : ∀ {v : V} {d : AV}, RV n N M H v d → RV n N M' H' v d
  | _, .im _, r => Rep.ext e r
  | _, .mu _, ⟨h, a, h1, h2⟩ => ⟨h, a, e.get h1, h2⟩
  | _, .pr x y, ⟨a, u, w, h1, h2, h3, r1, r2⟩ => by
    exact ⟨a, u, w, h1, e.out h3 h2, e.kp a _ (fun z => h2 (List.mem_append_left _ z)) h3, r1.ext e, r2.ext e⟩
  | _, .wl _, ⟨a, us, h1, h2, h3, r⟩ => ⟨a, us, h1, e.out h3 h2, e.kp a _ (fun z => h2 (List.mem_append_left _ z)) h3, Reps.ext e r⟩
theorem RV.up {k : Nat} (h : n ≤ k) : ∀ {v : V} {d : AV}, RV n N M H v d → RV k N M H v d
  | _, .im _, r => r
  | _, .mu _, ⟨h0, r⟩ => ⟨by omega, r⟩
  | _, .pr x y, ⟨a, u, w, h1, h2, h3, r1, r2⟩ => ⟨a, u, w, h1, h2, h3, r1.up h, r2.up h⟩
  | _, .wl _, r => r
theorem RV.extL (e : Ext M H M' H') {v : V} {d : AV} (r : RV M.length N M H v d) : RV M'.length N M' H' v d := (r.ext e).up e.len
theorem pair_imp {α β : Type} {F G : α → β → Prop} (h : ∀ a b, F a b → G a b) : ∀ {xs : List α} {ys : List β}, Paired F xs ys → Paired G xs ys
  | _, _, .nil => .nil
  | _, _, .cons r t => .cons (h _ _ r) (pair_imp h t)
theorem pair_len {α β : Type} {F : α → β → Prop} : ∀ {xs : List α} {ys : List β}, Paired F xs ys → xs.length = ys.length
  | _, _, .nil => rfl
  | _, _, .cons _ t => by simp [pair_len t]
theorem pair_at {α β : Type} {F : α → β → Prop} : ∀ {xs : List α} {ys : List β} {i : Nat} {y : β}, Paired F xs ys → ys[i]? = some y → ∃ x, xs[i]? = some x ∧ F x y
  | _, _, _, _, .nil, e => by simp at e
  | _, _, 0, _, .cons r _, e => by simp at e; exact ⟨_, rfl, e ▸ r⟩
  | _, _, i + 1, _, .cons _ r, e => pair_at (i := i) r (by simpa using e)
theorem pair_at' {α β : Type} {F : α → β → Prop} : ∀ {xs : List α} {ys : List β} {i : Nat} {x : α}, Paired F xs ys → xs[i]? = some x → ∃ y, ys[i]? = some y ∧ F x y
  | _, _, _, _, .nil, e => by simp at e
  | _, _, 0, _, .cons r _, e => by simp at e; exact ⟨_, rfl, e ▸ r⟩
  | _, _, i + 1, _, .cons _ r, e => pair_at' (i := i) r (by simpa using e)
theorem pair_app {α β : Type} {F : α → β → Prop} : ∀ {xs zs : List α} {ys ws : List β}, Paired F xs ys → Paired F zs ws → Paired F (xs ++ zs) (ys ++ ws)
  | _, _, _, _, .nil, s => s
  | _, _, _, _, .cons r t, s => .cons r (pair_app t s)
theorem RVs.ext (e : Ext M H M' H') {vs : List V} {ds : List AV} (r : RVs n N M H vs ds) : RVs n N M' H' vs ds := pair_imp (fun _ _ r => r.ext e) r
theorem RVs.extL (e : Ext M H M' H') {vs : List V} {ds : List AV} (r : RVs M.length N M H vs ds) : RVs M'.length N M' H' vs ds := pair_imp (fun _ _ r => r.extL e) r
theorem SR.ext (e : Ext M H M' H') {σ : L2.St} {ρ : Slots} (r : SR N M H σ ρ) : SR N M' H' σ ρ := ⟨r.1, fun i d h => let ⟨v, h1, h2⟩ := r.2 i d h; ⟨v, h1, h2.extL e⟩⟩
theorem RC.ext (e : Ext M H M' H') {a : Addr} (k : ∀ o, H a = some o → H' a = some o) : ∀ {c : Cell}, RC n N M H a c → RC n N M' H' a c
  | .lst _, ⟨us, h1, h2⟩ => ⟨us, k _ h1, pair_imp (fun _ _ r => r.ext e) h2⟩
  | .dk _, ⟨us, h1, h2⟩ => ⟨us, k _ h1, pair_imp (fun _ _ r => ⟨r.1, r.2.ext e⟩) h2⟩
  | .dt _, ⟨us, h1, h2⟩ => ⟨us, k _ h1, pair_imp (fun _ _ r => ⟨r.1, r.2.ext e⟩) h2⟩
  | .fz _ _ _, ⟨h1, h2⟩ => ⟨k _ h1, pair_imp (fun _ _ r => ⟨r.1, r.2.ext e⟩) h2⟩
theorem Rel.of (R : Rel N M H m) {i : Nat} {c : Cell} (h : m[i]? = some c) : ∃ a, M[i]? = some a ∧ RC i N M H a c := by
  have hi := (List.getElem?_eq_some_iff.mp h).1
  have : i < M.length := by rw [R.len]; exact hi
  exact ⟨M[i], List.getElem?_eq_getElem this, R.cell i _ c (List.getElem?_eq_getElem this) h⟩
theorem RC.has {a : Addr} : ∀ {c : Cell}, RC n N M H a c → ∃ o, H a = some o
  | .lst _, ⟨_, h, _⟩ => ⟨_, h⟩
  | .dk _, ⟨_, h, _⟩ => ⟨_, h⟩
  | .dt _, ⟨_, h, _⟩ => ⟨_, h⟩
  | .fz _ _ _, ⟨h, _⟩ => ⟨_, h⟩
theorem Rel.liveM (R : Rel N M H m) : Live M H := fun b hb => by
  obtain ⟨i, hi, e⟩ := List.mem_iff_getElem.mp hb
  have hi' : i < m.length := by rw [← R.len]; exact hi
  exact (R.cell i b m[i] (by rw [List.getElem?_eq_getElem hi, e]) (List.getElem?_eq_getElem hi')).has
theorem Rel.live (R : Rel N M H m) : Live (M ++ N) H := fun b hb => (List.mem_append.mp hb).elim (R.liveM b) (R.there b)
/-- something new that does not change -/
theorem Ext.alloc {p : Addr} {o : HO} (h : H p = Option.none) : Ext M H M (upd H p o) := ⟨List.prefix_refl _, Kp.new h, fun _ a b => absurd a b⟩
theorem Rel.kept (R : Rel N M H m) (k : ∀ b o, H b = some o → H' b = some o) : Rel N M H' m ∧ Ext M H M H' := by
  have e : Ext M H M H' := ⟨List.prefix_refl _, fun b o _ h => k b o h, fun _ a b => absurd a b⟩
  exact ⟨⟨R.nd, R.len, fun i a c h1 h2 => (R.cell i a c h1 h2).ext e fun o => k a o, fun a ha => let ⟨o, h⟩ := R.there a ha; ⟨o, k a o h⟩⟩, e⟩
theorem Rel.alloc (R : Rel N M H m) {p : Addr} {o : HO} (h : H p = Option.none) : Rel N M (upd H p o) m := (R.kept fun b x hb => by rw [upd_ne (ne_of_none hb h)]; exact hb).1
theorem nodup_snoc {α : Type} {l : List α} {a : α} (h : l.Nodup) (n : a ∉ l) : (l ++ [a]).Nodup := by
  rw [List.nodup_append]
  exact ⟨h, by simp, fun x hx y hy => by rw [List.mem_singleton.mp hy]; exact fun z => n (z ▸ hx)⟩
theorem getD_snoc {α : Type} {l : List α} {a x : α} {i : Nat} (h : (l ++ [a])[i]? = some x) : l[i]? = some x ∨ (i = l.length ∧ x = a) := by
  by_cases c : i < l.length
  · rw [List.getElem?_append_left c] at h; exact .inl h
  · rw [List.getElem?_append_right (by omega)] at h
    have : i - l.length = 0 := by
      by_cases z : i - l.length = 0
      · exact z
      · rw [List.getElem?_eq_none (by simp; omega)] at h; cases h
    rw [this] at h
    simp at h
    exact .inr ⟨by omega, h.symm⟩
/-- a new list or dict that may change -/
theorem Rel.grow (R : Rel N M H m) {p : Addr} {o : HO} {c : Cell} (h : H p = Option.none) (rc : RC m.length N (M ++ [p]) (upd H p o) p c) : Rel N (M ++ [p]) (upd H p o) (m ++ [c]) ∧ Ext M H (M ++ [p]) (upd H p o) := by
  have np : p ∉ M := R.liveM.fresh h
  have e : Ext M H (M ++ [p]) (upd H p o) := ⟨List.prefix_append _ _, Kp.new h, fun a h1 h2 => by
    rcases List.mem_append.mp h1 with z | z
    · exact absurd z h2
    · rw [List.mem_singleton.mp z]; exact h⟩
  refine ⟨⟨nodup_snoc R.nd np, by simp [R.len], fun i a c' h1 h2 => ?_, fun a ha => let ⟨x, hx⟩ := R.there a ha; ⟨x, by rw [upd_ne (ne_of_none hx h)]; exact hx⟩⟩, e⟩
  rcases getD_snoc h1 with g1 | ⟨g1, g2⟩
  · rcases getD_snoc h2 with g3 | ⟨g3, g4⟩
    · have rc' := R.cell i a c' g1 g3
      refine rc'.ext e fun x hx => ?_
      rw [upd_ne (ne_of_none hx h)]; exact hx
    · have := (List.getElem?_eq_some_iff.mp g1).1
      rw [R.len] at this; omega
  · rcases getD_snoc h2 with g3 | ⟨g3, g4⟩
    · have := (List.getElem?_eq_some_iff.mp g3).1
      rw [R.len] at g1; omega
    · subst g2 g4
      rw [g3]
      exact rc
/-- a change -/
theorem Rel.put (R : Rel N M H m) {i : Nat} {a : Addr} {o : HO} {c : Cell} (h : M[i]? = some a) (rc : RC i N M (upd H a o) a c) : Rel N M (upd H a o) (m.set i c) ∧ Ext M H M (upd H a o) := by
  have ha : a ∈ M := List.mem_of_getElem? h
  have e : Ext M H M (upd H a o) := ⟨List.prefix_refl _, Kp.put ha, fun _ x y => absurd x y⟩
  refine ⟨⟨R.nd, by rw [List.length_set]; exact R.len, fun j b c' h1 h2 => ?_, fun b hb => ?_⟩, e⟩
  rotate_left
  · by_cases z : b = a
    · exact ⟨o, by rw [z, upd_same]⟩
    · let ⟨x, hx⟩ := R.there b hb
      exact ⟨x, by rw [upd_ne z]; exact hx⟩
  by_cases z : j = i
  · subst z
    rw [h] at h1
    cases h1
    have hj := (List.getElem?_eq_some_iff.mp h).1
    rw [List.getElem?_set_self (by rw [← R.len]; exact hj)] at h2
    cases h2
    exact rc
  · rw [List.getElem?_set_ne (Ne.symm z)] at h2
    have ne : b ≠ a := fun q => z (by
      subst q
      exact (List.getElem?_inj (List.getElem?_eq_some_iff.mp h1).1 R.nd).mp (h1.trans h.symm))
    exact (R.cell j b c' h1 h2).ext e fun x hx => by rw [upd_ne ne]; exact hx
theorem RV.cut {k : Nat} (h : n ≤ k) : ∀ {v : V} {d : AV}, RV n N M H v d → RV n N (M.take k) H v d
  | _, .im _, r => Gd.Rep.less (fun b z => (List.mem_append.mp z).elim (fun z => List.mem_append_left _ (List.mem_of_mem_take z)) (List.mem_append_right _)) r
  | _, .mu _, ⟨h0, a, h1, h2⟩ => ⟨h0, a, by rw [List.getElem?_take_of_lt (by omega)]; exact h1, h2⟩
  | _, .pr x y, ⟨a, u, w, h1, h2, h3, r1, r2⟩ => ⟨a, u, w, h1, fun z => h2 ((List.mem_append.mp z).elim (fun z => List.mem_append_left _ (List.mem_of_mem_take z)) (List.mem_append_right _)), h3, r1.cut h, r2.cut h⟩
  | _, .wl _, ⟨a, us, h1, h2, h3, r⟩ => ⟨a, us, h1, fun z => h2 ((List.mem_append.mp z).elim (fun z => List.mem_append_left _ (List.mem_of_mem_take z)) (List.mem_append_right _)), h3, Gd.Reps.less (fun b z => (List.mem_append.mp z).elim (fun z => List.mem_append_left _ (List.mem_of_mem_take z)) (List.mem_append_right _)) r⟩
theorem RC.cut {k : Nat} (h : n ≤ k) {a : Addr} : ∀ {c : Cell}, RC n N M H a c → RC n N (M.take k) H a c
  | .lst _, ⟨us, h1, h2⟩ => ⟨us, h1, pair_imp (fun _ _ r => r.cut h) h2⟩
  | .dk _, ⟨us, h1, h2⟩ => ⟨us, h1, pair_imp (fun _ _ r => ⟨r.1, r.2.cut h⟩) h2⟩
  | .dt _, ⟨us, h1, h2⟩ => ⟨us, h1, pair_imp (fun _ _ r => ⟨r.1, r.2.cut h⟩) h2⟩
  | .fz _ _ _, ⟨h1, h2⟩ => ⟨h1, pair_imp (fun _ _ r => ⟨r.1, r.2.cut h⟩) h2⟩
/-- the later ones are forgotten -/
theorem Rel.cut (R : Rel N M H m) (k : Nat) : Rel N (M.take k) H (m.take k) := by
  refine ⟨R.nd.sublist (List.take_sublist _ _), by simp [R.len], fun i a c h1 h2 => ?_, R.there⟩
  by_cases z : i < k
  · rw [List.getElem?_take_of_lt z] at h1 h2
    exact (R.cell i a c h1 h2).cut (by omega)
  · rw [List.getElem?_take_eq_none (by omega)] at h1; cases h1
theorem RV.less {N' : List Addr} (h : ∀ b ∈ N', b ∈ N) : ∀ {v : V} {d : AV}, RV n N M H v d → RV n N' M H v d
  | _, .im _, r => Gd.Rep.less (fun b z => (List.mem_append.mp z).elim (List.mem_append_left _) fun z => List.mem_append_right _ (h b z)) r
  | _, .mu _, r => r
  | _, .pr x y, ⟨a, u, w, h1, h2, h3, r1, r2⟩ => ⟨a, u, w, h1, fun z => h2 ((List.mem_append.mp z).elim (List.mem_append_left _) fun z => List.mem_append_right _ (h a z)), h3, r1.less h, r2.less h⟩
  | _, .wl _, ⟨a, us, h1, h2, h3, r⟩ => ⟨a, us, h1, fun z => h2 ((List.mem_append.mp z).elim (List.mem_append_left _) fun z => List.mem_append_right _ (h a z)), h3, Gd.Reps.less (fun b z => (List.mem_append.mp z).elim (List.mem_append_left _) fun z => List.mem_append_right _ (h b z)) r⟩
theorem RV.hide {p : Addr} {o : HO} (hp : H p = Option.none) : ∀ {v : V} {d : AV}, RV n N M H v d → RV n (p :: N) M (upd H p o) v d
  | _, .im _, r => by
    have r2 : Rep (M ++ p :: N) H _ _ := Gd.Rep.swap (fun b x hb nb z => (List.mem_append.mp z).elim (fun z => nb (List.mem_append_left _ z)) fun z => (List.mem_cons.mp z).elim (fun z => by rw [z, hp] at hb; cases hb) fun z => nb (List.mem_append_right _ z)) r
    exact r2.keep (Kp.new hp)
  | _, .mu _, r => r
  | _, .pr x y, ⟨a, u, w, h1, h2, h3, r1, r2⟩ => ⟨a, u, w, h1, fun z => (List.mem_append.mp z).elim (fun z => h2 (List.mem_append_left _ z)) fun z => (List.mem_cons.mp z).elim (fun z => by rw [z, hp] at h3; cases h3) fun z => h2 (List.mem_append_right _ z), by rw [upd_ne (ne_of_none h3 hp)]; exact h3, r1.hide hp, r2.hide hp⟩
  | _, .wl _, ⟨a, us, h1, h2, h3, r⟩ => by
    have r2 : Reps (M ++ p :: N) H us _ := Gd.Reps.swap (fun b x hb nb z => (List.mem_append.mp z).elim (fun z => nb (List.mem_append_left _ z)) fun z => (List.mem_cons.mp z).elim (fun z => by rw [z, hp] at hb; cases hb) fun z => nb (List.mem_append_right _ z)) r
    exact ⟨a, us, h1, fun z => (List.mem_append.mp z).elim (fun z => h2 (List.mem_append_left _ z)) fun z => (List.mem_cons.mp z).elim (fun z => by rw [z, hp] at h3; cases h3) fun z => h2 (List.mem_append_right _ z), by rw [upd_ne (ne_of_none h3 hp)]; exact h3, r2.keep (Kp.new hp)⟩
/-- a change of a hidden list -/
theorem RV.hid {p : Addr} {o : HO} (hp : p ∈ N) : ∀ {v : V} {d : AV}, RV n N M H v d → RV n N M (upd H p o) v d
  | _, .im _, r => Gd.Rep.keep (Kp.put (List.mem_append_right _ hp)) r
  | _, .mu _, r => r
  | _, .pr x y, ⟨a, u, w, h1, h2, h3, r1, r2⟩ => ⟨a, u, w, h1, h2, by rw [upd_ne (fun z : a = p => h2 (List.mem_append_right _ (by rw [z]; exact hp)))]; exact h3, r1.hid hp, r2.hid hp⟩
  | _, .wl _, ⟨a, us, h1, h2, h3, r⟩ => ⟨a, us, h1, h2, by rw [upd_ne (fun z : a = p => h2 (List.mem_append_right _ (by rw [z]; exact hp)))]; exact h3, Gd.Reps.keep (Kp.put (List.mem_append_right _ hp)) r⟩
theorem RC.map {N' : List Addr} {a a' : Addr} (f : ∀ v d, RV n N M H v d → RV n N' M' H' v d) (k : ∀ o, H a = some o → H' a = some o) : ∀ {c : Cell}, RC n N M H a c → RC n N' M' H' a c
  | .lst _, ⟨us, h1, h2⟩ => ⟨us, k _ h1, pair_imp (fun _ _ r => f _ _ r) h2⟩
  | .dk _, ⟨us, h1, h2⟩ => ⟨us, k _ h1, pair_imp (fun _ _ r => ⟨r.1, f _ _ r.2⟩) h2⟩
  | .dt _, ⟨us, h1, h2⟩ => ⟨us, k _ h1, pair_imp (fun _ _ r => ⟨r.1, f _ _ r.2⟩) h2⟩
  | .fz _ _ _, ⟨h1, h2⟩ => ⟨k _ h1, pair_imp (fun _ _ r => ⟨r.1, f _ _ r.2⟩) h2⟩
theorem Rel.less {p : Addr} (R : Rel (p :: N) M H m) : Rel N M H m := ⟨R.nd, R.len, fun i a c h1 h2 => (R.cell i a c h1 h2).map (a' := a) (fun _ _ r => r.less fun b z => List.mem_cons_of_mem _ z) (fun _ h => h), fun a ha => R.there a (List.mem_cons_of_mem _ ha)⟩
theorem Rel.hide {p : Addr} {o : HO} (hp : H p = Option.none) (R : Rel N M H m) : Rel (p :: N) M (upd H p o) m :=
  ⟨R.nd, R.len, fun i a c h1 h2 => (R.cell i a c h1 h2).map (a' := a) (fun _ _ r => r.hide hp) fun x hx => by rw [upd_ne (ne_of_none hx hp)]; exact hx,
    fun a ha => (List.mem_cons.mp ha).elim (fun z => ⟨o, by rw [z, upd_same]⟩) fun z => let ⟨x, hx⟩ := R.there a z; ⟨x, by rw [upd_ne (ne_of_none hx hp)]; exact hx⟩⟩
theorem Rel.hid {p : Addr} {o : HO} (hp : p ∈ N) (np : p ∉ M) (R : Rel N M H m) : Rel N M (upd H p o) m :=
  ⟨R.nd, R.len, fun i a c h1 h2 => (R.cell i a c h1 h2).map (a' := a) (fun _ _ r => r.hid hp) fun x hx => by rw [upd_ne (fun z : a = p => np (by rw [← z]; exact List.mem_of_getElem? h1))]; exact hx,
    fun a ha => by
      by_cases z : a = p
      · exact ⟨o, by rw [z, upd_same]⟩
      · let ⟨x, hx⟩ := R.there a ha
        exact ⟨x, by rw [upd_ne z]; exact hx⟩⟩
theorem SR.hide {σ : L2.St} {ρ : Slots} {p : Addr} {o : HO} (hp : H p = Option.none) (S : SR N M H σ ρ) : SR (p :: N) M (upd H p o) σ ρ := ⟨S.1, fun i d h => let ⟨v, a, b⟩ := S.2 i d h; ⟨v, a, b.hide hp⟩⟩
theorem SR.hid {σ : L2.St} {ρ : Slots} {p : Addr} {o : HO} (hp : p ∈ N) (S : SR N M H σ ρ) : SR N M (upd H p o) σ ρ := ⟨S.1, fun i d h => let ⟨v, a, b⟩ := S.2 i d h; ⟨v, a, b.hid hp⟩⟩
theorem SR.less {σ : L2.St} {ρ : Slots} {p : Addr} (S : SR (p :: N) M H σ ρ) : SR N M H σ ρ := ⟨S.1, fun i d h => let ⟨v, a, b⟩ := S.2 i d h; ⟨v, a, b.less fun b z => List.mem_cons_of_mem _ z⟩⟩
theorem Ext.cut (e : Ext M H M' H') : Ext M H (M'.take M.length) H' := by
  have : M'.take M.length = M := by obtain ⟨t, rfl⟩ := e.pre; simp
  rw [this]
  exact ⟨List.prefix_refl _, e.kp, fun _ a b => absurd a b⟩
theorem Ext.take (e : Ext M H M' H') : M'.take M.length = M := by obtain ⟨t, rfl⟩ := e.pre; simp
end
end Ab
end

section
set_option maxRecDepth 100000
set_option maxHeartbeats 2000000
/-! Readings over data: expressions and tests. -/
namespace Ab
open PySem PySem.Spec PyProof.Rows L2 Gd
/-- an error of an own class: the class, its attributes -/
structure Er where
  C : Addr
  fs : List (Str × AV)
/-- where a def began, what it wants of an error -/
structure Bk where
  N0 : List Addr
  M0 : List Addr
  H0 : Hp
  E : XK
  EA : Er → Store → Prop
def EOk (N M : List Addr) (H : Hp) (E : XK) (EA : Er → Store → Prop) : Prop := ∀ M' H' m' C fs d us, Ext M H M' H' → Rel N M' H' m' → H' d = some (.xd us) → d ∉ M' ++ N → RKs M'.length N M' H' us fs → EA ⟨C, fs⟩ m' → E (.ref C) (some d) H'
structure Bk.Ok (B : Bk) (N M : List Addr) (H : Hp) : Prop where
  ext : Ext B.M0 B.H0 M H
  sub : ∀ b ∈ B.N0, b ∈ N
theorem Bk.Ok.trans {B : Bk} {N M M' : List Addr} {H H' : Hp} (a : B.Ok N M H) (e : Ext M H M' H') : B.Ok N M' H' := ⟨a.ext.trans e, a.sub⟩
theorem Bk.Ok.hide {B : Bk} {N M : List Addr} {H : Hp} (a : B.Ok N M H) (p : Addr) : B.Ok (p :: N) M H := ⟨a.ext, fun b z => List.mem_cons_of_mem _ (a.sub b z)⟩
abbrev WE := Slots → Store → (AV → Store → Prop) → Prop
abbrev WT := Slots → Store → (Bool → Store → Prop) → Prop
abbrev WL := Slots → Store → (List AV → Store → Prop) → Prop
def LE (B : Bk) (t : TE) (w : WE) : Prop := ∀ N M H σ ρ m P Q, B.Ok N M H → SR N M H σ ρ → Rel N M H m → w ρ m P → (∀ v d M' H' m', Ext M H M' H' → Rel N M' H' m' → RV M'.length N M' H' v d → P d m' → Q v H') → t σ H Q
def LT (B : Bk) (t : TT) (w : WT) : Prop := ∀ N M H σ ρ m P Q, B.Ok N M H → SR N M H σ ρ → Rel N M H m → w ρ m P → (∀ k M' H' m', Ext M H M' H' → Rel N M' H' m' → P k m' → Q k H') → t σ H Q
def LA (B : Bk) (t : TA) (w : WL) : Prop := ∀ N M H σ ρ m P Q, B.Ok N M H → SR N M H σ ρ → Rel N M H m → w ρ m P → (∀ vs ds M' H' m', Ext M H M' H' → Rel N M' H' m' → RVs M'.length N M' H' vs ds → P ds m' → Q vs H') → t σ H Q
structure AE (X : Cx) (B : Bk) (e : Expr) (t : TE) (w : WE) : Prop where
  pe : PE X e t
  le : LE B t w
structure AT (X : Cx) (B : Bk) (e : Expr) (t : TT) (w : WT) : Prop where
  pt : PT X e t
  lt : LT B t w
structure AW (X : Cx) (B : Bk) (e : Expr) (t : TT) (w : WT) : Prop where
  pw : PW X e t
  lt : LT B t w
structure AL (X : Cx) (B : Bk) (es : List Expr) (t : TA) (w : WL) : Prop where
  pa : PA X es t
  la : LA B t w
/-! ### names, constants -/
def wV (i : Nat) : WE := fun ρ m P => match ρ[i]? with | some (some d) => P d m | _ => False
def wC (d : PyData) : WE := fun _ m P => P (.im d) m
section
variable {X : Cx} {B : Bk} {e a b c : Expr} {es : List Expr} {t ta tb tc : TE} {w wa wb wc : WE} {pos : Pos}
theorem le_var (i : Nat) : LE B (tVar i) (wV i) := fun N M H σ ρ m P Q _ S R h q => by
  unfold wV at h
  split at h
  · rename_i d e
    obtain ⟨v, h1, h2⟩ := S.2 i d e
    exact ⟨v, h1, q _ d _ _ _ .refl R h2 h⟩
  · exact h.elim
theorem ae_v {i : Nat} (h : PE X e (tVar i)) : AE X B e (tVar i) (wV i) := ⟨h, le_var i⟩
theorem le_c {v : V} {d : PyData} (h : ∀ M H, Rep M H v d) : LE B (tC v) (wC d) := fun N M H σ ρ m P Q _ S R hw q => q _ (.im d) _ _ _ .refl R (h _ H) hw
theorem ae_int {i j pos} : AE X B (.Constant (.int i) j pos) (tC (.int i)) (wC (.int i)) := ⟨pe_int, le_c fun _ _ => .int i⟩
theorem ae_bl {b j pos} : AE X B (.Constant (.bool b) j pos) (tC (.bl b)) (wC (.bool b)) := ⟨pe_bl, le_c fun _ _ => .bl b⟩
theorem ae_non {j pos} : AE X B (.Constant .none j pos) (tC .non) (wC .none) := ⟨pe_non, le_c fun _ _ => .non⟩
theorem ae_str {x j pos} : AE X B (.Constant (.str x) j pos) (tC (.str x)) (wC (.str x)) := ⟨pe_str, le_c fun _ _ => .str x⟩
/-- a whole number of the module -/
theorem ae_globI {i : Int} (h : PE X e (tC (.int i))) : AE X B e (tC (.int i)) (wC (.int i)) := ⟨h, le_c fun _ _ => .int i⟩
/-! ### operations by values -/
abbrev G2 := AV → AV → Store → (AV → Store → Prop) → Prop
abbrev G1 := AV → Store → (AV → Store → Prop) → Prop
abbrev GL := List AV → Store → (AV → Store → Prop) → Prop
/-- what a rule asks of the values, told of the data -/
def l2 (g : G2) : R2 := fun x y H Q => ∃ N M m d e P, Rel N M H m ∧ RV M.length N M H x d ∧ RV M.length N M H y e ∧ g d e m P ∧ ∀ v d' M' H' m', Ext M H M' H' → Rel N M' H' m' → RV M'.length N M' H' v d' → P d' m' → Q v H'
def l1 (g : G1) : V → Hp → VK → Prop := fun x H Q => ∃ N M m d P, Rel N M H m ∧ RV M.length N M H x d ∧ g d m P ∧ ∀ v d' M' H' m', Ext M H M' H' → Rel N M' H' m' → RV M'.length N M' H' v d' → P d' m' → Q v H'
def lL (g : GL) : List V → Hp → VK → Prop := fun xs H Q => ∃ N M m ds P, Rel N M H m ∧ RVs M.length N M H xs ds ∧ g ds m P ∧ ∀ v d' M' H' m', Ext M H M' H' → Rel N M' H' m' → RV M'.length N M' H' v d' → P d' m' → Q v H'
def lM (g : AV → GL) : V → List V → Hp → VK → Prop := fun x xs H Q => ∃ N M m d ds P, Rel N M H m ∧ RV M.length N M H x d ∧ RVs M.length N M H xs ds ∧ g d ds m P ∧ ∀ v d' M' H' m', Ext M H M' H' → Rel N M' H' m' → RV M'.length N M' H' v d' → P d' m' → Q v H'
abbrev OA (X : Cx) (f : Value → Value → Sem Value) (g : G2) : Prop := OpR X f (l2 g)
abbrev UA (X : Cx) (f : Value → Sem Value) (g : G1) : Prop := UnR X f (l1 g)
abbrev CA (X : Cx) (f : Value) (g : GL) : Prop := CallR X f (lL g)
def wOp (g : G2) (wa wb : WE) : WE := fun ρ m P => wa ρ m fun d m1 => wb ρ m1 fun e m2 => g d e m2 P
def wUn (g : G1) (wa : WE) : WE := fun ρ m P => wa ρ m fun d m1 => g d m1 P
def wCB (g : GL) (wa : WL) : WE := fun ρ m P => wa ρ m fun ds m1 => g ds m1 P
theorem le_op {g : G2} (ha : LE B ta wa) (hb : LE B tb wb) : LE B (tOp (l2 g) ta tb) (wOp g wa wb) := fun N M H σ ρ m P Q x0 S R h q =>
  ha N M H σ ρ m _ _ x0 S R h fun v d M1 H1 m1 x1 R1 r1 h1 => hb N M1 H1 σ ρ m1 _ _ (x0.trans x1) (S.ext x1) R1 h1 fun u e M2 H2 m2 x2 R2 r2 h2 =>
    ⟨N, M2, m2, d, e, P, R2, r1.extL x2, r2, h2, fun z f M3 H3 m3 x3 R3 r3 h3 => q z f M3 H3 m3 ((x1.trans x2).trans x3) R3 r3 h3⟩
theorem le_un {g : G1} (ha : LE B ta wa) : LE B (tUn (l1 g) ta) (wUn g wa) := fun N M H σ ρ m P Q x0 S R h q =>
  ha N M H σ ρ m _ _ x0 S R h fun v d M1 H1 m1 x1 R1 r1 h1 => ⟨N, M1, m1, d, P, R1, r1, h1, fun z f M3 H3 m3 x3 R3 r3 h3 => q z f M3 H3 m3 (x1.trans x3) R3 r3 h3⟩
theorem le_cb {g : GL} {tl : TA} {wl : WL} (ha : LA B tl wl) : LE B (tCB (lL g) tl) (wCB g wl) := fun N M H σ ρ m P Q x0 S R h q =>
  ha N M H σ ρ m _ _ x0 S R h fun vs ds M1 H1 m1 x1 R1 r1 h1 => ⟨N, M1, m1, ds, P, R1, r1, h1, fun z f M3 H3 m3 x3 R3 r3 h3 => q z f M3 H3 m3 (x1.trans x3) R3 r3 h3⟩
theorem ae_op {op : Operator} {g : G2} (ho : OA X (binaryOp op) g) (ha : AE X B a ta wa) (hb : AE X B b tb wb) : AE X B (.BinOp a op b pos) (tOp (l2 g) ta tb) (wOp g wa wb) := ⟨pe_op ho ha.pe hb.pe, le_op ha.le hb.le⟩
theorem ae_un {op : UnaryOp} {g : G1} (ho : UA X (unaryOp op) g) (ha : AE X B a ta wa) : AE X B (.UnaryOp op a pos) (tUn (l1 g) ta) (wUn g wa) := ⟨pe_un ho ha.pe, le_un ha.le⟩
theorem ae_cmp {op : CmpOp} {g : G2} (ho : OA X (compareOp op) g) (ha : AE X B a ta wa) (hb : AE X B b tb wb) (hm : behindInMarks op b = false) : AE X B (.Compare a [op] [b] pos) (tOp (l2 g) ta tb) (wOp g wa wb) := ⟨pe_cmpR ho ha.pe hb.pe hm, le_op ha.le hb.le⟩
/-- a test whose value is a boolean -/
def wB (w : WE) : WT := fun ρ m P => w ρ m fun d m1 => match d with | .im (.bool k) => P k m1 | _ => False
theorem lt_test (h : LE B t w) : LT B (tTest t) (wB w) := fun N M H σ ρ m P Q x0 S R hw q => h N M H σ ρ m _ _ x0 S R hw fun v d M1 H1 m1 x1 R1 r1 h1 => by
  split at h1
  · rename_i k
    cases r1
    exact ⟨k, rfl, q k M1 H1 m1 x1 R1 h1⟩
  · exact h1.elim
theorem lt_val (h : LE B t w) : LT B (tB t) (wB w) := lt_test h
theorem at_cmp {op : CmpOp} {g : G2} (ho : OA X (compareOp op) g) (ha : AE X B a ta wa) (hb : AE X B b tb wb) (hm : behindInMarks op b = false) : AT X B (.Compare a [op] [b] pos) (tTest (tOp (l2 g) ta tb)) (wB (wOp g wa wb)) := ⟨pt_cmpR ho ha.pe hb.pe hm, lt_test (le_op ha.le hb.le)⟩
theorem at_val (h : AE X B e t w) (he : ∀ whole, isTrue e X.env whole = (do let v ← whole; standAt e.pos; holding [v] (truthy v)) := by intro _; rfl) : AT X B e (tB t) (wB w) := ⟨pt_val h.pe he, lt_val h.le⟩
/-- a op b op' c -/
def wCh (g g' : G2) (wa wb wc : WE) : WE := fun ρ m P => wa ρ m fun d m1 => wb ρ m1 fun e m2 => g d e m2 fun z m3 => match z with
  | .im (.bool k) => if k = true then wc ρ m3 fun f m4 => g' e f m4 P else P (.im (.bool false)) m3
  | _ => False
theorem le_ch {g g' : G2} (ha : LE B ta wa) (hb : LE B tb wb) (hc : LE B tc wc) : LE B (tChain (l2 g) (l2 g') ta tb tc) (wCh g g' wa wb wc) := fun N M H σ ρ m P Q x0 S R h q =>
  ha N M H σ ρ m _ _ x0 S R h fun v d M1 H1 m1 x1 R1 r1 h1 => hb N M1 H1 σ ρ m1 _ _ (x0.trans x1) (S.ext x1) R1 h1 fun u e M2 H2 m2 x2 R2 r2 h2 =>
    ⟨N, M2, m2, d, e, _, R2, r1.extL x2, r2, h2, fun z f M3 H3 m3 x3 R3 r3 h3 => by
      split at h3
      · rename_i k
        cases r3
        refine ⟨k, rfl, ?_⟩
        cases k with
        | false => exact q _ (.im (.bool false)) M3 H3 m3 ((x1.trans x2).trans x3) R3 (.bl false) (by simpa using h3)
        | true =>
          simp only [if_true] at h3 ⊢
          exact hc N M3 H3 σ ρ m3 _ _ (((x0.trans x1).trans x2).trans x3) (((S.ext x1).ext x2).ext x3) R3 h3 fun z f M4 H4 m4 x4 R4 r4 h4 =>
            ⟨N, M4, m4, e, f, P, R4, (r2.extL x3).extL x4, r4, h4, fun z5 f5 M5 H5 m5 x5 R5 r5 h5 => q z5 f5 M5 H5 m5 ((((x1.trans x2).trans x3).trans x4).trans x5) R5 r5 h5⟩
      · exact h3.elim⟩
theorem ae_ch {op op' : CmpOp} {g g' : G2} (ho : OA X (compareOp op) g) (ho' : OA X (compareOp op') g') (ha : AE X B a ta wa) (hb : AE X B b tb wb) (hc : AE X B c tc wc)
    (hm : lastMarks [op, op'] [b, c] = false := by with_unfolding_all rfl) : AE X B (.Compare a [op, op'] [b, c] pos) (tChain (l2 g) (l2 g') ta tb tc) (wCh g g' wa wb wc) := ⟨pe_chain ho ho' ha.pe hb.pe hc.pe hm, le_ch ha.le hb.le hc.le⟩
theorem at_ch {op op' : CmpOp} {g g' : G2} (ho : OA X (compareOp op) g) (ho' : OA X (compareOp op') g') (ha : AE X B a ta wa) (hb : AE X B b tb wb) (hc : AE X B c tc wc)
    (hm : lastMarks [op, op'] [b, c] = false := by with_unfolding_all rfl) : AT X B (.Compare a [op, op'] [b, c] pos) (tTest (tChain (l2 g) (l2 g') ta tb tc)) (wB (wCh g g' wa wb wc)) := ⟨pt_chain ho ho' ha.pe hb.pe hc.pe hm, lt_test (le_ch ha.le hb.le hc.le)⟩
/-! ### truth -/
def tru (d : AV) (m : Store) (P : Bool → Prop) : Prop := match d with
  | .im .none => P false
  | .im (.bool b) => P b
  | .im (.int i) => P (i != 0)
  | .im (.str x) => x.length ≤ sizeLine ∧ P ((x.length : Int) != 0)
  | .im (.list xs) => P (!xs.isEmpty)
  | .im (.tuple xs) => P (!xs.isEmpty)
  | .im (.dict kvs) => P false
  | .mu i => (match m[i]? with | some (.lst xs) => P (!xs.isEmpty) | some (.dk kvs) => P (!kvs.isEmpty) | _ => False)
  | .pr _ _ => P true
  | .wl xs => P (!xs.isEmpty)
theorem emp_reps {M : List Addr} {H : Hp} {us : List V} {ds : List PyData} (r : Reps M H us ds) : (!us.isEmpty) = !ds.isEmpty := by cases r <;> rfl
theorem emp_pair {α β : Type} {F : α → β → Prop} {us : List α} {ds : List β} (r : Paired F us ds) : (!us.isEmpty) = !ds.isEmpty := by cases r <;> rfl
theorem tru_of {K : PySem.W.Frag} {N M : List Addr} {H : Hp} {m : Store} (R : Rel N M H m) {v : V} {d : AV} (r : RV M.length N M H v d) {P : Bool → Prop} (h : tru d m P) : ∃ k, TruV K v H k ∧ P k := by
  cases d with
  | im d =>
    have r : Rep (M ++ N) H v d := r
    cases r with
    | non => exact ⟨_, rfl, h⟩
    | bl b => exact ⟨_, rfl, h⟩
    | int i => exact ⟨_, rfl, h⟩
    | str x => exact ⟨_, ⟨h.1, rfl⟩, h.2⟩
    | tup n e z => exact ⟨_, .inr (.inl ⟨_, .inl (.inl e), rfl⟩), by rw [emp_reps z]; exact h⟩
    | lst n ne e z => exact ⟨_, .inl ⟨_, .inl (.inl e), rfl⟩, by rw [emp_reps z]; exact h⟩
    | emp n e => exact ⟨_, .inr (.inr ⟨_, e, rfl⟩), h⟩
  | mu i =>
    obtain ⟨_, a, h1, rfl⟩ := r
    unfold tru at h
    dsimp only at h
    split at h
    · rename_i xs e
      obtain ⟨a', h3, us, h4, h5⟩ := R.of e
      rw [h1] at h3; cases h3
      exact ⟨_, .inl ⟨_, .inl (.inl h4), rfl⟩, by rw [emp_pair h5]; exact h⟩
    · rename_i xs e
      obtain ⟨a', h3, us, h4, h5⟩ := R.of e
      rw [h1] at h3; cases h3
      exact ⟨_, .inr (.inr ⟨_, h4, rfl⟩), by rw [emp_pair h5]; exact h⟩
    · exact h.elim
  | pr x y =>
    obtain ⟨a, u, w, rfl, _, h3, _⟩ := r
    exact ⟨_, .inr (.inl ⟨_, .inl (.inl h3), rfl⟩), h⟩
  | wl xs =>
    obtain ⟨a, us, rfl, _, h3, r⟩ := r
    exact ⟨_, .inl ⟨_, .inl (.inl h3), rfl⟩, by rw [emp_reps r]; exact h⟩
def wTru (w : WE) : WT := fun ρ m P => w ρ m fun d m1 => tru d m1 fun k => P k m1
theorem at_tru {K : PySem.W.Frag} (hK : X.K = K) (h : AE X B e t w) (he : ∀ whole, isTrue e X.env whole = (do let v ← whole; standAt e.pos; holding [v] (truthy v)) := by intro _; rfl) : AT X B e (fun σ H Q => t σ H fun x H' => ∃ k, TruV K x H' k ∧ Q k H') (wTru w) :=
  ⟨hK ▸ pt_truth h.pe he, fun N M H σ ρ m P Q x0 S R hw q => h.le N M H σ ρ m _ _ x0 S R hw fun v d M1 H1 m1 x1 R1 r1 h1 => let ⟨k, a, b⟩ := tru_of R1 r1 h1; ⟨k, a, q k M1 H1 m1 x1 R1 b⟩⟩
def wNotT (w : WT) : WT := fun ρ m P => w ρ m fun k m1 => P (!k) m1
def wAndT (w u : WT) : WT := fun ρ m P => w ρ m fun k m1 => if k = true then u ρ m1 P else P false m1
def wOrT (w u : WT) : WT := fun ρ m P => w ρ m fun k m1 => if k = true then P true m1 else u ρ m1 P
section
variable {tt tu : TT} {wt wu : WT} {rest : List Expr}
theorem at_not (h : AT X B a tt wt) : AT X B (.UnaryOp .Not a pos) (tNot tt) (wNotT wt) := ⟨pt_not h.pt, fun N M H σ ρ m P Q x0 S R hw q => h.lt N M H σ ρ m _ _ x0 S R hw fun k M1 H1 m1 x1 R1 h1 => q _ M1 H1 m1 x1 R1 h1⟩
theorem lt_and (ha : LT B tt wt) (hb : LT B tu wu) : LT B (tAnd tt tu) (wAndT wt wu) := fun N M H σ ρ m P Q x0 S R hw q => ha N M H σ ρ m _ _ x0 S R hw fun k M1 H1 m1 x1 R1 h1 => by
  cases k with
  | false => exact q _ M1 H1 m1 x1 R1 h1
  | true => exact hb N M1 H1 σ ρ m1 _ _ (x0.trans x1) (S.ext x1) R1 h1 fun k M2 H2 m2 x2 R2 h2 => q k M2 H2 m2 (x1.trans x2) R2 h2
theorem lt_or (ha : LT B tt wt) (hb : LT B tu wu) : LT B (tOr tt tu) (wOrT wt wu) := fun N M H σ ρ m P Q x0 S R hw q => ha N M H σ ρ m _ _ x0 S R hw fun k M1 H1 m1 x1 R1 h1 => by
  cases k with
  | true => exact q _ M1 H1 m1 x1 R1 h1
  | false => exact hb N M1 H1 σ ρ m1 _ _ (x0.trans x1) (S.ext x1) R1 h1 fun k M2 H2 m2 x2 R2 h2 => q k M2 H2 m2 (x1.trans x2) R2 h2
theorem aw_and1 (ha : AT X B a tt wt) : AW X B (.BoolOp .And [a] pos) tt wt := ⟨pw_and1 ha.pt, ha.lt⟩
theorem aw_or1 (ha : AT X B a tt wt) : AW X B (.BoolOp .Or [a] pos) tt wt := ⟨pw_or1 ha.pt, ha.lt⟩
theorem aw_and (ha : AT X B a tt wt) (hb : AW X B (.BoolOp .And (b :: rest) pos) tu wu) : AW X B (.BoolOp .And (a :: b :: rest) pos) (tAnd tt tu) (wAndT wt wu) := ⟨pw_and ha.pt hb.pw, lt_and ha.lt hb.lt⟩
theorem aw_or (ha : AT X B a tt wt) (hb : AW X B (.BoolOp .Or (b :: rest) pos) tu wu) : AW X B (.BoolOp .Or (a :: b :: rest) pos) (tOr tt tu) (wOrT wt wu) := ⟨pw_or ha.pt hb.pw, lt_or ha.lt hb.lt⟩
theorem AW.at (h : AW X B e tt wt) : AT X B e tt wt := ⟨h.pw.pt, h.lt⟩
/-- .. as values -/
def wOr (wa wb : WE) : WE := fun ρ m P => wa ρ m fun d m1 => tru d m1 fun k => if k = true then P d m1 else wb ρ m1 P
def wAnd (wa wb : WE) : WE := fun ρ m P => wa ρ m fun d m1 => tru d m1 fun k => if k = true then wb ρ m1 P else P d m1
def wNot (wa : WE) : WE := fun ρ m P => wa ρ m fun d m1 => tru d m1 fun k => P (.im (.bool (!k))) m1
theorem ae_one {op : BoolOp} (h : AE X B a t w) : AE X B (.BoolOp op [a] pos) t w := ⟨pe_one h.pe, h.le⟩
theorem ae_or {K : PySem.W.Frag} (hK : X.K = K) (ha : AE X B a ta wa) (hb : AE X B (.BoolOp .Or (b :: rest) pos) tb wb) : AE X B (.BoolOp .Or (a :: b :: rest) pos) (tOrT K ta tb) (wOr wa wb) :=
  ⟨hK ▸ pe_orT ha.pe hb.pe, fun N M H σ ρ m P Q x0 S R hw q => ha.le N M H σ ρ m _ _ x0 S R hw fun v d M1 H1 m1 x1 R1 r1 h1 => by
    obtain ⟨k, e, h2⟩ := tru_of (K := K) R1 r1 h1
    refine ⟨k, e, ?_⟩
    cases k with
    | true => exact q _ d M1 H1 m1 x1 R1 r1 h2
    | false => exact hb.le N M1 H1 σ ρ m1 _ _ (x0.trans x1) (S.ext x1) R1 h2 fun z f M2 H2 m2 x2 R2 r2 h2 => q z f M2 H2 m2 (x1.trans x2) R2 r2 h2⟩
theorem ae_and {K : PySem.W.Frag} (hK : X.K = K) (ha : AE X B a ta wa) (hb : AE X B (.BoolOp .And (b :: rest) pos) tb wb) : AE X B (.BoolOp .And (a :: b :: rest) pos) (tAndT K ta tb) (wAnd wa wb) :=
  ⟨hK ▸ pe_andT ha.pe hb.pe, fun N M H σ ρ m P Q x0 S R hw q => ha.le N M H σ ρ m _ _ x0 S R hw fun v d M1 H1 m1 x1 R1 r1 h1 => by
    obtain ⟨k, e, h2⟩ := tru_of (K := K) R1 r1 h1
    refine ⟨k, e, ?_⟩
    cases k with
    | false => exact q _ d M1 H1 m1 x1 R1 r1 h2
    | true => exact hb.le N M1 H1 σ ρ m1 _ _ (x0.trans x1) (S.ext x1) R1 h2 fun z f M2 H2 m2 x2 R2 r2 h2 => q z f M2 H2 m2 (x1.trans x2) R2 r2 h2⟩
theorem ae_not {K : PySem.W.Frag} (hK : X.K = K) (ha : AE X B a ta wa) : AE X B (.UnaryOp .Not a pos) (tNotT K ta) (wNot wa) :=
  ⟨hK ▸ pe_notT ha.pe, fun N M H σ ρ m P Q x0 S R hw q => ha.le N M H σ ρ m _ _ x0 S R hw fun v d M1 H1 m1 x1 R1 r1 h1 => by
    obtain ⟨k, e, h2⟩ := tru_of (K := K) R1 r1 h1
    exact ⟨k, e, q _ (.im (.bool (!k))) M1 H1 m1 x1 R1 (.bl _) h2⟩⟩
def wIf (wt : WT) (wa wb : WE) : WE := fun ρ m P => wt ρ m fun k m1 => if k = true then wa ρ m1 P else wb ρ m1 P
theorem ae_if (hc : AT X B c tt wt) (ha : AE X B a ta wa) (hb : AE X B b tb wb) : AE X B (.IfExp c a b pos) (tIf tt ta tb) (wIf wt wa wb) :=
  ⟨pe_ifExp hc.pt ha.pe hb.pe, fun N M H σ ρ m P Q x0 S R hw q => hc.lt N M H σ ρ m _ _ x0 S R hw fun k M1 H1 m1 x1 R1 h1 => by
    cases k with
    | true => exact ha.le N M1 H1 σ ρ m1 _ _ (x0.trans x1) (S.ext x1) R1 h1 fun z f M2 H2 m2 x2 R2 r2 h2 => q z f M2 H2 m2 (x1.trans x2) R2 r2 h2
    | false => exact hb.le N M1 H1 σ ρ m1 _ _ (x0.trans x1) (S.ext x1) R1 h1 fun z f M2 H2 m2 x2 R2 r2 h2 => q z f M2 H2 m2 (x1.trans x2) R2 r2 h2⟩
end
/-! ### arguments, displays -/
def wNil : WL := fun _ m P => P [] m
def wCons (wa : WE) (wl : WL) : WL := fun ρ m P => wa ρ m fun d m1 => wl ρ m1 fun ds m2 => P (d :: ds) m2
section
variable {tl : TA} {wl : WL}
theorem al_nil : AL X B [] tNil wNil := ⟨pa_nil, fun N M H σ ρ m P Q x0 S R hw q => q [] [] M H m .refl R .nil hw⟩
theorem al_cons (ha : AE X B e t w) (hr : AL X B es tl wl) (hs : starEach (e :: es) X.env = (false, eval e X.env) :: starEach es X.env := by rfl) : AL X B (e :: es) (tCons t tl) (wCons w wl) :=
  ⟨pa_cons ha.pe hr.pa hs, fun N M H σ ρ m P Q x0 S R hw q => ha.le N M H σ ρ m _ _ x0 S R hw fun v d M1 H1 m1 x1 R1 r1 h1 => hr.la N M1 H1 σ ρ m1 _ _ (x0.trans x1) (S.ext x1) R1 h1 fun vs ds M2 H2 m2 x2 R2 r2 h2 =>
    q _ (d :: ds) M2 H2 m2 (x1.trans x2) R2 (.cons (r1.extL x2) r2) h2⟩
/-- all of them data -/
def ims : List AV → Option (List PyData)
  | [] => some []
  | .im d :: r => (ims r).map (d :: ·)
  | _ => none
theorem ims_of {N M : List Addr} {H : Hp} {n : Nat} : ∀ {vs : List V} {ds : List AV} {xs : List PyData}, RVs n N M H vs ds → ims ds = some xs → Reps (M ++ N) H vs xs
  | _, [], _, .nil, h => by cases h; exact .nil
  | _, .im d :: r, _, .cons r1 r2, h => by
    unfold ims at h
    obtain ⟨ys, h1, rfl⟩ := Option.map_eq_some_iff.mp h
    exact .cons r1 (ims_of r2 h1)
theorem to_ims {N M : List Addr} {H : Hp} {n : Nat} : ∀ {vs : List V} {xs : List PyData}, Reps (M ++ N) H vs xs → RVs n N M H vs (xs.map .im)
  | _, _, .nil => .nil
  | _, _, .cons r1 r2 => .cons r1 (to_ims r2)
theorem ims_map : ∀ xs : List PyData, ims (xs.map .im) = some xs
  | [] => rfl
  | x :: r => by simp [ims, ims_map r]
/-- a new tuple of data -/
def wTup (wl : WL) : WE := fun ρ m P => wl ρ m fun ds m1 => match ims ds with
  | some xs => xs.length ≤ sizeLine ∧ P (.im (.tuple xs)) m1
  | none => (match ds with | [x, y] => P (.pr x y) m1 | _ => False)
theorem le_tup (h : LA B tl wl) : LE B (tTup tl) (wTup wl) := fun N M H σ ρ m P Q x0 S R hw q => h N M H σ ρ m _ _ x0 S R hw fun vs ds M1 H1 m1 x1 R1 r1 h1 => by
  split at h1
  · rename_i xs e
    have r := ims_of r1 e
    refine ⟨by rw [r.length]; exact h1.1, fun p hp => q _ (.im (.tuple xs)) M1 _ m1 (x1.trans (.alloc hp)) (R1.alloc hp) (Rep.tup (R1.live.fresh hp) upd_same (r.keep (Kp.new hp))) h1.2⟩
  · split at h1
    · rename_i x y _
      cases r1 with
      | cons s1 rr => cases rr with
        | cons s2 rr =>
          cases rr
          refine ⟨by show 2 ≤ sizeLine; decide, fun p hp => q _ (.pr x y) M1 _ m1 (x1.trans (.alloc hp)) (R1.alloc hp) ⟨p, _, _, rfl, R1.live.fresh hp, upd_same, ?_, ?_⟩ h1⟩
          · exact s1.ext (.alloc hp)
          · exact s2.ext (.alloc hp)
    · exact h1.elim
theorem ae_tup {x1} (h : AL X B es tl wl) : AE X B (.Tuple es x1 pos) (tTup tl) (wTup wl) := ⟨pe_tup h.pa, le_tup h.la⟩
/-- a new list of data that stays as it is -/
def wLst (wl : WL) : WE := fun ρ m P => wl ρ m fun ds m1 => match ims ds with | some xs => xs.length ≤ sizeLine ∧ P (.im (.list xs)) m1 | none => False
theorem ae_lst (h : AL X B es tl wl) : AE X B (.List es pos) (tLstS tl) (wLst wl) := ⟨pe_lstS h.pa, fun N M H σ ρ m P Q x0 S R hw q => h.la N M H σ ρ m _ _ x0 S R hw fun vs ds M1 H1 m1 x1 R1 r1 h1 => by
  split at h1
  · rename_i xs e
    have r := ims_of r1 e
    refine ⟨by rw [r.length]; exact h1.1, fun p hp hs => q _ (.im (.list xs)) M1 _ m1 (x1.trans (.alloc hp)) (R1.alloc hp) (Rep.lst (R1.live.fresh hp) hs upd_same (r.keep (Kp.new hp))) h1.2⟩
  · exact h1.elim⟩
/-- a new list that may change -/
def wLstM (wl : WL) : WE := fun ρ m P => wl ρ m fun ds m1 => ds.length ≤ sizeLine ∧ P (.mu m1.length) (m1 ++ [.lst ds])
theorem RVs.grow {N M : List Addr} {H : Hp} {m : Store} (R : Rel N M H m) {p : Addr} {o : HO} (hp : H p = none) {vs : List V} {ds : List AV} (r : RVs M.length N M H vs ds) : RVs m.length N (M ++ [p]) (upd H p o) vs ds := by
  have np := R.liveM.fresh hp
  have e : Ext M H (M ++ [p]) (upd H p o) := ⟨List.prefix_append _ _, Kp.new hp, fun a h1 h2 => by
    rcases List.mem_append.mp h1 with z | z
    · exact absurd z h2
    · rw [List.mem_singleton.mp z]; exact hp⟩
  rw [← R.len]
  exact r.ext e
theorem last_mu {N M : List Addr} {H : Hp} {m : Store} (R : Rel N M H m) (p : Addr) : (M ++ [p])[m.length]? = some p := by rw [← R.len]; simp
theorem newL {N M : List Addr} {H : Hp} {m : Store} (R : Rel N M H m) {p : Addr} (hp : H p = none) {vs : List V} {ds : List AV} (r : RVs M.length N M H vs ds) :
    Rel N (M ++ [p]) (upd H p (.lst vs)) (m ++ [.lst ds]) ∧ Ext M H (M ++ [p]) (upd H p (.lst vs)) ∧ RV (M ++ [p]).length N (M ++ [p]) (upd H p (.lst vs)) (.ref p) (.mu m.length) := by
  obtain ⟨a, b⟩ := R.grow (c := .lst ds) hp ⟨vs, upd_same, r.grow R hp⟩
  exact ⟨a, b, by rw [← R.len]; simp, p, last_mu R p, rfl⟩
theorem ae_lstM (h : AL X B es tl wl) : AE X B (.List es pos) (tLstS tl) (wLstM wl) := ⟨pe_lstS h.pa, fun N M H σ ρ m P Q x0 S R hw q => h.la N M H σ ρ m _ _ x0 S R hw fun vs ds M1 H1 m1 x1 R1 r1 h1 => by
  refine ⟨by rw [pair_len r1]; exact h1.1, fun p hp hs => ?_⟩
  obtain ⟨a, b, c⟩ := newL R1 hp r1
  exact q _ (.mu m1.length) _ _ _ (x1.trans b) a c h1.2⟩
end
end
end Ab
end

section
set_option maxRecDepth 100000
set_option maxHeartbeats 2000000
/-! Readings over data: statements and loops. -/
namespace Ab
open PySem PySem.Spec PyProof.Rows L2 Gd
structure Fin where
  nx : Slots → Store → Prop
  rt : AV → Store → Prop
  bk : Slots → Store → Prop := fun _ _ => False
  ct : Slots → Store → Prop := fun _ _ => False
abbrev WS := Fin → Slots → Store → Prop
structure FinOk (N M : List Addr) (H : Hp) (F : Fin) (D : Ends) : Prop where
  nx : ∀ M' H' σ ρ m, Ext M H M' H' → SR N M' H' σ ρ → Rel N M' H' m → F.nx ρ m → D.nx σ H'
  rt : ∀ M' H' v d m, Ext M H M' H' → Rel N M' H' m → RV M'.length N M' H' v d → F.rt d m → D.rt v H'
  bk : ∀ M' H' σ ρ m, Ext M H M' H' → SR N M' H' σ ρ → Rel N M' H' m → F.bk ρ m → D.bk σ H'
  ct : ∀ M' H' σ ρ m, Ext M H M' H' → SR N M' H' σ ρ → Rel N M' H' m → F.ct ρ m → D.ct σ H'
theorem FinOk.trans {N M M1 : List Addr} {H H1 : Hp} {F : Fin} {D : Ends} (f : FinOk N M H F D) (x : Ext M H M1 H1) : FinOk N M1 H1 F D :=
  ⟨fun M' H' σ ρ m e => f.nx M' H' σ ρ m (x.trans e), fun M' H' v d m e => f.rt M' H' v d m (x.trans e), fun M' H' σ ρ m e => f.bk M' H' σ ρ m (x.trans e), fun M' H' σ ρ m e => f.ct M' H' σ ρ m (x.trans e)⟩
def LS (B : Bk) (t : TS) (w : WS) : Prop := ∀ N M H σ ρ m F D, B.Ok N M H → SR N M H σ ρ → Rel N M H m → w F ρ m → FinOk N M H F D → t D σ H
structure AS (X : Cx) (B : Bk) (st : Stmt) (t : TS) (w : WS) : Prop where
  ps : PS X st t
  ls : LS B t w
structure ASs (X : Cx) (B : Bk) (st : List Stmt) (t : TS) (w : WS) : Prop where
  ps : PSs X st t
  ls : LS B t w
/-! ### blocks -/
def wNext : WS := fun F ρ m => F.nx ρ m
def wSeq (w u : WS) : WS := fun F ρ m => w { F with nx := fun ρ' m' => u F ρ' m' } ρ m
def wRet (w : WE) : WS := fun F ρ m => w ρ m F.rt
def wRetN : WS := fun F _ m => F.rt (.im .none) m
def wDrop (w : WE) : WS := fun F ρ m => w ρ m fun _ m' => F.nx ρ m'
def wIfS (c : WT) (w u : WS) : WS := fun F ρ m => c ρ m fun k m' => if k = true then w F ρ m' else u F ρ m'
section
variable {X : Cx} {B : Bk} {st : Stmt} {rest : List Stmt} {t u : TS} {w v : WS} {e : Expr} {te : TE} {we : WE} {pos : Pos}
theorem ss_nil : ASs X B [] tNext wNext := ⟨pss_nil, fun N M H σ ρ m F D x0 S R h f => f.nx M H σ ρ m .refl S R h⟩
theorem ls_seq (h1 : LS B t w) (h2 : LS B u v) : LS B (tSeq t u) (wSeq w v) := fun N M H σ ρ m F D x0 S R h f =>
  h1 N M H σ ρ m _ _ x0 S R h ⟨fun M' H' σ' ρ' m' x S' R' q => h2 N M' H' σ' ρ' m' F D (x0.trans x) S' R' q (f.trans x), f.rt, f.bk, f.ct⟩
theorem ss_cons (h1 : AS X B st t w) (h2 : ASs X B rest u v) : ASs X B (st :: rest) (tSeq t u) (wSeq w v) := ⟨pss_cons h1.ps h2.ps, ls_seq h1.ls h2.ls⟩
theorem ss_one (h1 : AS X B st t w) : ASs X B [st] t w := ⟨pss_one h1.ps, h1.ls⟩
theorem s_ret (h : AE X B e te we) : AS X B (.Return (some e) pos) (tRet te) (wRet we) := ⟨ps_ret h.pe, fun N M H σ ρ m F D x0 S R hw f => h.le N M H σ ρ m _ _ x0 S R hw fun v d M1 H1 m1 x1 R1 r1 h1 => f.rt M1 H1 v d m1 x1 R1 r1 h1⟩
theorem s_retN : AS X B (.Return none pos) tRetN wRetN := ⟨ps_retN, fun N M H σ ρ m F D x0 S R hw f => f.rt M H .non (.im .none) m .refl R .non hw⟩
theorem s_expr (h : AE X B e te we) (hs : swapsWith e none pos.line X.env = pure false := by rfl) : AS X B (.Expr e pos) (tDrop te) (wDrop we) := ⟨ps_expr h.pe hs, fun N M H σ ρ m F D x0 S R hw f => h.le N M H σ ρ m _ _ x0 S R hw fun v d M1 H1 m1 x1 R1 r1 h1 => f.nx M1 H1 σ ρ m1 x1 (S.ext x1) R1 h1⟩
theorem s_pass : AS X B (.Pass pos) tNext wNext := ⟨ps_pass, fun N M H σ ρ m F D x0 S R h f => f.nx M H σ ρ m .refl S R h⟩
def wBrk : WS := fun F ρ m => F.bk ρ m
def wCnt : WS := fun F ρ m => F.ct ρ m
theorem s_brk : AS X B (.Break pos) tBreak wBrk := ⟨ps_break, fun N M H σ ρ m F D x0 S R h f => f.bk M H σ ρ m .refl S R h⟩
theorem s_cnt : AS X B (.Continue pos) tCont wCnt := ⟨ps_continue, fun N M H σ ρ m F D x0 S R h f => f.ct M H σ ρ m .refl S R h⟩
theorem ls_if {tc : TT} {wc : WT} (hc : LT B tc wc) (ha : LS B t w) (hb : LS B u v) : LS B (tIfS tc t u) (wIfS wc w v) := fun N M H σ ρ m F D x0 S R hw f => hc N M H σ ρ m _ _ x0 S R hw fun k M1 H1 m1 x1 R1 h1 => by
  cases k with
  | true => exact ha N M1 H1 σ ρ m1 F D (x0.trans x1) (S.ext x1) R1 h1 (f.trans x1)
  | false => exact hb N M1 H1 σ ρ m1 F D (x0.trans x1) (S.ext x1) R1 h1 (f.trans x1)
theorem s_if {c : Expr} {a b : List Stmt} {tc : TT} {wc : WT} (hc : AT X B c tc wc) (ha : ASs X B a t w) (hb : ASs X B b u v) : AS X B (.If c a b pos) (tIfS tc t u) (wIfS wc w v) := ⟨ps_if hc.pt ha.ps hb.ps, ls_if hc.lt ha.ls hb.ls⟩
end
/-! ### targets -/
abbrev WG := AV → Slots → Store → (Slots → Store → Prop) → Prop
abbrev WGs := List AV → Slots → Store → (Slots → Store → Prop) → Prop
def LG (B : Bk) (g : TG) (w : WG) : Prop := ∀ N M H σ ρ m v d P Q, B.Ok N M H → SR N M H σ ρ → Rel N M H m → RV M.length N M H v d → w d ρ m P → (∀ M' H' σ' ρ' m', Ext M H M' H' → SR N M' H' σ' ρ' → Rel N M' H' m' → P ρ' m' → Q σ' H') → g v σ H Q
def LGs (B : Bk) (g : TGs) (w : WGs) : Prop := ∀ N M H σ ρ m vs ds P Q, B.Ok N M H → SR N M H σ ρ → Rel N M H m → RVs M.length N M H vs ds → w ds ρ m P → (∀ M' H' σ' ρ' m', Ext M H M' H' → SR N M' H' σ' ρ' → Rel N M' H' m' → P ρ' m' → Q σ' H') → g vs σ H Q
structure AG (X : Cx) (B : Bk) (e : Expr) (g : TG) (w : WG) : Prop where
  pg : PG X e g
  lg : LG B g w
structure AGs (X : Cx) (B : Bk) (es : List Expr) (g : TGs) (w : WGs) : Prop where
  pg : PGs X es g
  lg : LGs B g w
def wgN (i : Nat) : WG := fun d ρ m P => P (ρ.set i (some d)) m
def wgNil : WGs := fun ds ρ m P => match ds with | [] => P ρ m | _ => False
def wgCons (w : WG) (u : WGs) : WGs := fun ds ρ m P => match ds with | d :: r => w d ρ m fun ρ' m' => u r ρ' m' P | _ => False
def wgTup (n : Nat) (u : WGs) : WG := fun d ρ m P => match d with
  | .im (.tuple xs) => xs.length = n ∧ u (xs.map .im) ρ m P
  | .pr x y => n = 2 ∧ u [x, y] ρ m P
  | _ => False
theorem SR.set {N M : List Addr} {H : Hp} {σ : L2.St} {ρ : Slots} (S : SR N M H σ ρ) (i : Nat) {v : V} {d : AV} (r : RV M.length N M H v d) : SR N M H (σ.set i (some v)) (ρ.set i (some d)) := by
  refine ⟨by simp [S.1], fun j e h => ?_⟩
  by_cases z : i = j
  · subst z
    have hl : i < ρ.length := by have := (List.getElem?_eq_some_iff.mp h).1; simpa using this
    rw [List.getElem?_set_self hl] at h
    cases h
    exact ⟨v, List.getElem?_set_self (by rw [S.1]; exact hl), r⟩
  · rw [List.getElem?_set_ne z] at h ⊢
    exact S.2 j e h
section
variable {X : Cx} {B : Bk} {pos : Pos} {e : Expr} {es : List Expr} {g : TG} {gs : TGs} {w : WG} {ws : WGs}
theorem lg_name (i : Nat) : LG B (gName i) (wgN i) := fun N M H σ ρ m v d P Q x0 S R r h q => q M H _ _ m .refl (S.set i r) R h
theorem g_name {i : Nat} (h : PG X e (gName i)) : AG X B e (gName i) (wgN i) := ⟨h, lg_name i⟩
theorem gs_nil : AGs X B [] gNil wgNil := ⟨pgs_nil, fun N M H σ ρ m vs ds P Q x0 S R r h q => by
  cases r with
  | nil => exact ⟨rfl, q M H σ ρ m .refl S R h⟩
  | cons _ _ => exact h.elim⟩
theorem gs_cons (h1 : AG X B e g w) (h2 : AGs X B es gs ws) (hs : (assignEach (e :: es) X.env).map (·.2) = assign e X.env :: (assignEach es X.env).map (·.2) := by rfl) : AGs X B (e :: es) (gCons g gs) (wgCons w ws) :=
  ⟨pgs_cons h1.pg h2.pg hs, fun N M H σ ρ m vs ds P Q x0 S R r h q => by
    cases r with
    | nil => exact h.elim
    | cons r1 r2 => exact ⟨_, _, rfl, h1.lg N M H σ ρ m _ _ _ _ x0 S R r1 h fun M' H' σ' ρ' m' x S' R' h' => h2.lg N M' H' σ' ρ' m' _ _ _ _ (x0.trans x) S' R' (RVs.extL x r2) h' fun M2 H2 σ2 ρ2 m2 x2 S2 R2 h2 => q M2 H2 σ2 ρ2 m2 (x.trans x2) S2 R2 h2⟩⟩
theorem lg_tup {K : PySem.W.Frag} {n : Nat} (h : LGs B gs ws) : LG B (gTup K n gs) (wgTup n ws) := fun N M H σ ρ m v d P Q x0 S R r hw q => by
  unfold wgTup at hw
  split at hw
  · rename_i xs
    cases r with
    | tup n1 e1 z => exact ⟨_, _, rfl, .inl (.inl e1), by rw [z.length]; exact hw.1, h N M H σ ρ m _ _ _ _ x0 S R (to_ims z) hw.2 q⟩
  · obtain ⟨a, u, w', rfl, h2, h3, r1, r2⟩ := r
    exact ⟨a, _, rfl, .inl (.inl h3), hw.1.symm, h N M H σ ρ m _ _ _ _ x0 S R (.cons r1 (.cons r2 .nil)) hw.2 q⟩
  · exact hw.elim
theorem g_tup {k : Nat} {n : Nat} {K : PySem.W.Frag} (hK : X.K = K) (hc : X.calm = true) (h : AGs X B es gs ws) (hn : (assignEach es X.env).length = n := by rfl) (hst : (assignEach es X.env).findIdx? (·.1) = none := by rfl) : AG X B (.Tuple es k pos) (gTup K n gs) (wgTup n ws) :=
  ⟨hK ▸ pg_tup hc h.pg hn hst, lg_tup h.lg⟩
def wAsg (we : WE) (wg : WG) : WS := fun F ρ m => we ρ m fun d m' => wg d ρ m' F.nx
variable {te : TE} {we : WE}
theorem ls_asg (he : LE B te we) (hg : LG B g w) : LS B (tAsg te g) (wAsg we w) := fun N M H σ ρ m F D x0 S R h f => he N M H σ ρ m _ _ x0 S R h fun v d M1 H1 m1 x1 R1 r1 h1 =>
  hg N M1 H1 σ ρ m1 v d _ _ (x0.trans x1) (S.ext x1) R1 r1 h1 fun M2 H2 σ2 ρ2 m2 x2 S2 R2 h2 => f.nx M2 H2 σ2 ρ2 m2 (x1.trans x2) S2 R2 h2
theorem s_asg {tg : Expr} (he : AE X B e te we) (hg : AG X B tg g w) (hs : swapsWithSole [tg] e pos.line X.env = pure false := by rfl) (hw : swappedStores [tg] e X.env = pure none := by rfl)
    (h1 : (assignEach [tg] X.env).map (·.2) = [assign tg X.env] := by rfl) : AS X B (.Assign [tg] e pos) (tAsg te g) (wAsg we w) := ⟨ps_asg he.pe hg.pg hs hw h1, ls_asg he.le hg.lg⟩
theorem s_set {i : Nat} {x : Str} {pos' : Pos} (hN : X.N.Nodup) (hi : X.N[i]? = some x) (hx : Loc X.env.scope x) (he : AE X B e te we) (hs : swapsWith e (some (.Name x pos')) pos.line X.env = pure false := by rfl) (hf : X.fn x = true ∨ X.env.scope.names.lookup x = some .local := by first | exact .inl rfl | exact .inr rfl | assumption) :
    AS X B (.Assign [.Name x pos'] e pos) (tAsg te (gName i)) (wAsg we (wgN i)) := ⟨ps_set hN hi hx he.pe hs hf, ls_asg he.le (lg_name i)⟩
/-- a, b = x, y with plain local names -/
def wPar (is : List Nat) (wl : WL) : WS := fun F ρ m => wl ρ m fun ds m' => ds.length = is.length ∧ F.nx ((is.zip ds).foldl (fun r p => r.set p.1 (some p.2)) ρ) m'
theorem ls_par2 {i j : Nat} {tl : TA} {wl : WL} (h : LA B tl wl) : LS B (tPar i j tl) (wPar [i, j] wl) := fun N M H σ ρ m F D x0 S R hw f => h N M H σ ρ m _ _ x0 S R hw fun vs ds M1 H1 m1 x1 R1 r1 h1 => by
  obtain ⟨hl, h1⟩ := h1
  cases r1 with
  | nil => cases hl
  | cons r1 rr =>
    cases rr with
    | nil => cases hl
    | cons r2 rr =>
      cases rr with
      | nil => exact ⟨_, _, rfl, f.nx M1 H1 _ _ m1 x1 (((S.ext x1).set i r1).set j r2) R1 h1⟩
      | cons _ _ => simp at hl
end
/-! ### what a loop walks -/
/-- later, where the hidden lists too may have changed -/
structure ExtN (N M : List Addr) (H : Hp) (M' : List Addr) (H' : Hp) : Prop where
  pre : M <+: M'
  kp : Kp (M ++ N) H H'
  new : ∀ a, a ∈ M' → a ∉ M → a ∉ N → H a = none
theorem Ext.toN {N M M' : List Addr} {H H' : Hp} (e : Ext M H M' H') : ExtN N M H M' H' := ⟨e.pre, e.kp.more fun b z => List.mem_append_left _ z, fun a h1 h2 _ => e.new a h1 h2⟩
theorem ExtN.get {N M M' : List Addr} {H H' : Hp} (e : ExtN N M H M' H') {i : Nat} {a : Addr} (h : M[i]? = some a) : M'[i]? = some a := by
  obtain ⟨t, rfl⟩ := e.pre
  rw [List.getElem?_append_left (List.getElem?_eq_some_iff.mp h).1]; exact h
structure Wk (J : It) (N M : List Addr) (H : Hp) (xs : List AV) (G : Store → Prop) : Prop where
  goes : ∀ i N2 M2 H2 m2, i < xs.length → ExtN N M H M2 H2 → Rel N2 M2 H2 m2 → G m2 → J.go i H2
  stops : ∀ N2 M2 H2 m2, ExtN N M H M2 H2 → Rel N2 M2 H2 m2 → G m2 → J.stop xs.length H2
  yields : ∀ i x d N2 M2 H2 H3 m2, xs[i]? = some d → (∀ b ∈ N, b ∈ N2) → ExtN N M H M2 H2 → (∀ b ∈ N2, b ∈ N ∨ H b = none) → Rel N2 M2 H2 m2 → G m2 → J.yld i H2 x H3 → (∀ b o, H2 b = some o → H3 b = some o) ∧ RV M2.length N2 M2 H3 x d
abbrev WI := Slots → Store → (List AV → (Store → Prop) → Store → Prop) → Prop
def LI (B : Bk) (wi : TI) (w : WI) : Prop := ∀ N M H σ ρ m P R, B.Ok N M H → SR N M H σ ρ → Rel N M H m → w ρ m P → (∀ J xs G M' H' m', Ext M H M' H' → Rel N M' H' m' → Wk J N M' H' xs G → P xs G m' → R J H') → wi σ H R
structure AI (X : Cx) (B : Bk) (tg e : Expr) (t : TI) (w : WI) : Prop where
  pi : PI X tg e t
  li : LI B t w
/-! ### for -/
def AV.und (n : Nat) : AV → Bool
  | .im _ => true
  | .mu i => decide (i < n)
  | .pr x y => x.und n && y.und n
  | .wl _ => true
/-- the slots whose lists are not forgotten -/
def keepS (n : Nat) (ρ : Slots) : Slots := ρ.map fun o => match o with
  | some d => if d.und n then some d else none
  | none => none
theorem RV.und {N M : List Addr} {H : Hp} {k n : Nat} (hn : n ≤ M.length) : ∀ {v : V} {d : AV}, d.und n = true → RV k N M H v d → RV n N (M.take n) H v d
  | _, .im _, _, r => Gd.Rep.less (fun b z => (List.mem_append.mp z).elim (fun z => List.mem_append_left _ (List.mem_of_mem_take z)) (List.mem_append_right _)) r
  | _, .mu i, h, ⟨h0, a, h1, h2⟩ => by
    have h : i < n := by simpa [AV.und] using h
    exact ⟨h, a, by rw [List.getElem?_take_of_lt h]; exact h1, h2⟩
  | _, .pr x y, h, ⟨a, u, w, h1, h2, h3, r1, r2⟩ => by
    have h : x.und n = true ∧ y.und n = true := by simpa [AV.und] using h
    exact ⟨a, u, w, h1, fun z => h2 ((List.mem_append.mp z).elim (fun z => List.mem_append_left _ (List.mem_of_mem_take z)) (List.mem_append_right _)), h3, r1.und hn h.1, r2.und hn h.2⟩
  | _, .wl _, _, ⟨a, us, h1, h2, h3, r⟩ => ⟨a, us, h1, fun z => h2 ((List.mem_append.mp z).elim (fun z => List.mem_append_left _ (List.mem_of_mem_take z)) (List.mem_append_right _)), h3, Gd.Reps.less (fun b z => (List.mem_append.mp z).elim (fun z => List.mem_append_left _ (List.mem_of_mem_take z)) (List.mem_append_right _)) r⟩
theorem SR.keepS {N M : List Addr} {H : Hp} {σ : L2.St} {ρ : Slots} {n : Nat} (hn : n ≤ M.length) (S : SR N M H σ ρ) : SR N (M.take n) H σ (keepS n ρ) := by
  refine ⟨by simp [Ab.keepS, S.1], fun i d h => ?_⟩
  unfold Ab.keepS at h
  rw [List.getElem?_map] at h
  obtain ⟨o, h1, h2⟩ := Option.map_eq_some_iff.mp h
  cases o with
  | none => cases h2
  | some e =>
    simp only at h2
    split at h2
    · rename_i c
      cases h2
      obtain ⟨v, a, b⟩ := S.2 i d h1
      refine ⟨v, a, ?_⟩
      rw [List.length_take, Nat.min_eq_left hn]
      exact b.und hn c
    · cases h2
def forL (n : Nat) (G : Store → Prop) (b : AV → WS) (F : Fin) : List AV → Slots → Store → Prop
  | [], ρ, m => G m ∧ F.nx ρ m
  | x :: r, ρ, m => G m ∧ b x { nx := fun ρ' m' => forL n G b F r (keepS n ρ') (m'.take n), rt := F.rt, bk := F.nx, ct := fun ρ' m' => forL n G b F r (keepS n ρ') (m'.take n) } ρ m
def wFor (wi : WI) (wg : WG) (wb : WS) : WS := fun F ρ m => wi ρ m fun xs G m1 => forL m1.length G (fun x F' ρ' m' => wg x ρ' m' fun ρ2 m2 => wb F' ρ2 m2) F xs ρ m1
section
variable {X : Cx} {B : Bk} {pos : Pos}
theorem ls_for {wi : TI} {g : TG} {tb : TS} {w : WI} {wg : WG} {wb : WS} (hi : LI B wi w) (hg : LG B g wg) (hb : LS B tb wb) : LS B (tFor wi g tb) (wFor w wg wb) := fun N M H σ ρ m F D x0 S R h f => by
  refine hi N M H σ ρ m _ _ x0 S R h fun J xs G M1 H1 m1 x1 R1 wk h1 => ?_
  refine ⟨fun i k σ' H' => k = xs.length - i ∧ i ≤ xs.length ∧ ∃ M' ρ' m', Ext M1 H1 M' H' ∧ M'.length = M1.length ∧ SR N M' H' σ' ρ' ∧ Rel N M' H' m' ∧ forL m1.length G (fun x F' ρ' m' => wg x ρ' m' fun ρ2 m2 => wb F' ρ2 m2) F (xs.drop i) ρ' m', ⟨_, rfl, Nat.zero_le _, M1, ρ, m1, .refl, rfl, S.ext x1, R1, by simpa using h1⟩, ?_⟩
  rintro i k σ' H' ⟨rfl, hi, M', ρ', m', x2, l2, S2, R2, h2⟩
  by_cases hlt : i < xs.length
  · rw [List.drop_eq_getElem_cons hlt] at h2
    obtain ⟨g0, h2⟩ := h2
    refine .inr ⟨wk.goes i N M' H' m' hlt x2.toN R2 g0, fun σ3 H3 => ∃ M3 ρ3 m3, Ext M' H' M3 H3 ∧ SR N M3 H3 σ3 ρ3 ∧ Rel N M3 H3 m3 ∧ forL m1.length G (fun x F' ρ' m' => wg x ρ' m' fun ρ2 m2 => wb F' ρ2 m2) F (xs.drop (i + 1)) (keepS m1.length ρ3) (m3.take m1.length), ?_, ?_⟩
    · rintro σ3 H3 ⟨M3, ρ3, m3, x3, S3, R3, h3⟩
      have hle : m1.length ≤ M3.length := by rw [← R1.len]; exact (x2.trans x3).len
      have c := (x2.trans x3).cut
      rw [R1.len] at c
      exact ⟨xs.length - (i + 1), by omega, rfl, hlt, M3.take m1.length, _, _, c, by rw [List.length_take, R1.len]; omega, S3.keepS hle, R3.cut _, h3⟩
    · intro x H3 y
      obtain ⟨k3, rx⟩ := wk.yields i x xs[i] N M' H' H3 m' (List.getElem?_eq_getElem hlt) (fun _ z => z) x2.toN (fun b z => .inl z) R2 g0 y
      obtain ⟨R3, x3⟩ := R2.kept k3
      refine hg N M' H3 σ' ρ' m' x _ _ _ (((x0.trans x1).trans x2).trans x3) (S2.ext x3) R3 rx h2 fun M4 H4 σ4 ρ4 m4 x4 S4 R4 h4 => ?_
      refine hb N M4 H4 σ4 ρ4 m4 _ _ ((((x0.trans x1).trans x2).trans x3).trans x4) S4 R4 h4 ?_
      have xx := x3.trans x4
      exact ⟨fun M5 H5 σ5 ρ5 m5 x5 S5 R5 h5 => ⟨M5, ρ5, m5, xx.trans x5, S5, R5, h5⟩, fun M5 H5 v d m5 x5 R5 r5 h5 => f.rt M5 H5 v d m5 (((x1.trans x2).trans xx).trans x5) R5 r5 h5,
        fun M5 H5 σ5 ρ5 m5 x5 S5 R5 h5 => f.nx M5 H5 σ5 ρ5 m5 (((x1.trans x2).trans xx).trans x5) S5 R5 h5, fun M5 H5 σ5 ρ5 m5 x5 S5 R5 h5 => ⟨M5, ρ5, m5, xx.trans x5, S5, R5, h5⟩⟩
  · have e : i = xs.length := by omega
    subst e
    rw [List.drop_length] at h2
    exact .inl ⟨wk.stops N M' H' m' x2.toN R2 h2.1, f.nx M' H' σ' ρ' m' (x1.trans x2) S2 R2 h2.2⟩
theorem s_for {tg iter : Expr} {body : List Stmt} {wi : TI} {g : TG} {tb : TS} {w : WI} {wg : WG} {wb : WS} (hp : PassesOwn (model X.prog X.w) X.A X.env X.xe) (hc : X.calm = true) (hi : AI X B tg iter wi w) (hg : AG X B tg g wg) (hb : ASs X B body tb wb)
    (hs : ∀ x, foldedSetIterable iter X.env x = pure x := by intro _; rfl) : AS X B (.For tg iter body [] pos) (tFor wi g tb) (wFor w wg wb) := ⟨ps_for hp hc hi.pi hg.pg hb.ps hs, ls_for hi.li hg.lg hb.ls⟩
/-! ### while -/
def wWhile (wc : WT) (wb : WS) : WS := fun F ρ m => ∃ W : Nat → Slots → Store → Prop, (∃ k, W k ρ m) ∧ ∀ k ρ m, W k ρ m → wc ρ m fun b m1 =>
  if b = true then ∃ N : Slots → Store → Prop, (∀ ρ' m', N ρ' m' → ∃ k', k' < k ∧ W k' ρ' m') ∧ wb { nx := N, rt := F.rt, bk := F.nx, ct := N } ρ m1 else F.nx ρ m1
theorem s_while {c : Expr} {body : List Stmt} {tc : TT} {tb : TS} {wc : WT} {wb : WS} (hp : PassesOwn (model X.prog X.w) X.A X.env X.xe) (hc : AT X B c tc wc) (hb : ASs X B body tb wb) : AS X B (.While c body [] pos) (tWhile tc tb) (wWhile wc wb) := by
  refine ⟨ps_while hp hc.pt hb.ps, fun N M H σ ρ m F D x0 S R h f => ?_⟩
  obtain ⟨W, ⟨k0, w0⟩, turn⟩ := h
  refine ⟨fun k σ' H' => ∃ M' ρ' m', Ext M H M' H' ∧ SR N M' H' σ' ρ' ∧ Rel N M' H' m' ∧ W k ρ' m', ⟨k0, M, ρ, m, .refl, S, R, w0⟩, ?_⟩
  rintro k σ' H' ⟨M', ρ', m', x1, S1, R1, w1⟩
  refine hc.lt N M' H' σ' ρ' m' _ _ (x0.trans x1) S1 R1 (turn k ρ' m' w1) fun b M2 H2 m2 x2 R2 h2 => ?_
  cases b with
  | false => exact f.nx M2 H2 σ' ρ' m2 (x1.trans x2) (S1.ext x2) R2 h2
  | true =>
    obtain ⟨Nn, hN, h2⟩ := h2
    refine ⟨fun σ3 H3 => ∃ M3 ρ3 m3, Ext M H M3 H3 ∧ SR N M3 H3 σ3 ρ3 ∧ Rel N M3 H3 m3 ∧ Nn ρ3 m3, ?_, ?_⟩
    · rintro σ3 H3 ⟨M3, ρ3, m3, x3, S3, R3, n3⟩
      obtain ⟨k', lt, w3⟩ := hN ρ3 m3 n3
      exact ⟨k', lt, M3, ρ3, m3, x3, S3, R3, w3⟩
    · refine hb.ls N M2 H2 σ' ρ' m2 _ _ ((x0.trans x1).trans x2) (S1.ext x2) R2 h2 ?_
      exact ⟨fun M5 H5 σ5 ρ5 m5 x5 S5 R5 h5 => ⟨M5, ρ5, m5, (x1.trans x2).trans x5, S5, R5, h5⟩, fun M5 H5 v d m5 x5 R5 r5 h5 => f.rt M5 H5 v d m5 ((x1.trans x2).trans x5) R5 r5 h5,
        fun M5 H5 σ5 ρ5 m5 x5 S5 R5 h5 => f.nx M5 H5 σ5 ρ5 m5 ((x1.trans x2).trans x5) S5 R5 h5, fun M5 H5 σ5 ρ5 m5 x5 S5 R5 h5 => ⟨M5, ρ5, m5, (x1.trans x2).trans x5, S5, R5, h5⟩⟩
end
end Ab
end

section
set_option maxRecDepth 100000
set_option maxHeartbeats 2000000
/-! Readings over data: what is walked; comprehensions. -/
namespace Ab
open PySem PySem.Spec PyProof.Rows L2 Gd RZ
abbrev yes : Store → Prop := fun _ => True
section
variable {J : It} {N M : List Addr} {H : Hp} {m : Store} {K : PySem.W.Frag} {a : Addr}
theorem mapIm {xs : List PyData} {i : Nat} {d : AV} (h : (xs.map AV.im)[i]? = some d) : ∃ e, xs[i]? = some e ∧ d = .im e := by
  rw [List.getElem?_map] at h
  obtain ⟨e, h1, h2⟩ := Option.map_eq_some_iff.mp h
  exact ⟨e, h1, h2.symm⟩
/-- data seen by those who hide more -/
theorem sees {N2 M2 : List Addr} {H2 : Hp} {b : Addr} {o : HO} (e : ExtN N M H M2 H2) (n2 : ∀ b ∈ N2, b ∈ N ∨ H b = none) (h2 : b ∉ M ++ N) (h3 : H b = some o) : b ∉ M2 ++ N2 := fun z => by
  rcases List.mem_append.mp z with z | z
  · have := e.new b z (fun q => h2 (List.mem_append_left _ q)) fun q => h2 (List.mem_append_right _ q)
    rw [this] at h3; cases h3
  · rcases n2 b z with q | q
    · exact h2 (List.mem_append_right _ q)
    · rw [q] at h3; cases h3
theorem seesK {N2 M2 : List Addr} {H2 : Hp} (e : ExtN N M H M2 H2) (nn : ∀ b ∈ N, b ∈ N2) : Kp (M2 ++ N2) H H2 := fun b o hb eb => e.kp b o (fun z => hb ((List.mem_append.mp z).elim (fun z => List.mem_append_left _ (e.pre.subset z)) fun z => List.mem_append_right _ (nn b z))) eb
theorem Rep.seen {N2 M2 : List Addr} {H2 : Hp} {v : V} {d : PyData} (e : ExtN N M H M2 H2) (nn : ∀ b ∈ N, b ∈ N2) (n2 : ∀ b ∈ N2, b ∈ N ∨ H b = none) (r : Rep (M ++ N) H v d) : Rep (M2 ++ N2) H2 v d :=
  Gd.Rep.keep (seesK e nn) (Gd.Rep.swap (fun b o hb nb => sees e n2 nb hb) r)
theorem Reps.seen {N2 M2 : List Addr} {H2 : Hp} {v : List V} {d : List PyData} (e : ExtN N M H M2 H2) (nn : ∀ b ∈ N, b ∈ N2) (n2 : ∀ b ∈ N2, b ∈ N ∨ H b = none) (r : Reps (M ++ N) H v d) : Reps (M2 ++ N2) H2 v d :=
  Gd.Reps.keep (seesK e nn) (Gd.Reps.swap (fun b o hb nb => sees e n2 nb hb) r)
theorem RV.seen {n : Nat} {N2 M2 : List Addr} {H2 : Hp} (e : ExtN N M H M2 H2) (nn : ∀ b ∈ N, b ∈ N2) (n2 : ∀ b ∈ N2, b ∈ N ∨ H b = none) : ∀ {v : V} {d : AV}, RV n N M H v d → RV n N2 M2 H2 v d
  | _, .im _, r => Rep.seen e nn n2 r
  | _, .mu _, ⟨h, a, h1, h2⟩ => ⟨h, a, e.get h1, h2⟩
  | _, .pr _ _, ⟨b, s, t, h1, h2, h3, r1, r2⟩ => ⟨b, s, t, h1, sees e n2 h2 h3, e.kp b _ h2 h3, RV.seen e nn n2 r1, RV.seen e nn n2 r2⟩
  | _, .wl _, ⟨b, us, h1, h2, h3, r⟩ => ⟨b, us, h1, sees e n2 h2 h3, e.kp b _ h2 h3, Reps.seen e nn n2 r⟩
theorem wk_tup {us : List V} {xs : List PyData} (na : a ∉ M ++ N) (ha : H a = some (.tup us)) (r : Reps (M ++ N) H us xs) : Wk (Itt K a) N M H (xs.map .im) yes := by
  have l := r.length
  refine ⟨fun i N2 M2 H2 m2 hi e _ _ => ?_, fun N2 M2 H2 m2 e _ _ => ⟨us, .inl (.inl (e.kp a _ na ha)), by simp [l]⟩, fun i x d N2 M2 H2 H3 m2 hd nn e n2 _ _ y => ?_⟩
  · have hi : i < us.length := by simpa [l] using hi
    exact ⟨us, us[i], .inl (.inl (e.kp a _ na ha)), by simp [hi]⟩
  · obtain ⟨rfl, y2⟩ := y
    obtain ⟨f, h1, rfl⟩ := mapIm hd
    obtain ⟨v, h2, h3⟩ := r.at' h1
    have := y2 us (.inl (.inl (e.kp a _ na ha)))
    rw [h2] at this
    cases this
    exact ⟨fun _ _ z => z, Rep.seen e nn n2 h3⟩
theorem wk_list {us : List V} {xs : List PyData} (na : a ∉ M ++ N) (ha : H a = some (.lst us)) (r : Reps (M ++ N) H us xs) : Wk (Itl K a) N M H (xs.map .im) yes := by
  have l := r.length
  refine ⟨fun i N2 M2 H2 m2 hi e _ _ => ?_, fun N2 M2 H2 m2 e _ _ => ⟨us, .inl (.inl (e.kp a _ na ha)), by simp [l]⟩, fun i x d N2 M2 H2 H3 m2 hd nn e n2 _ _ y => ?_⟩
  · have hi : i < us.length := by simpa [l] using hi
    exact ⟨us, us[i], .inl (.inl (e.kp a _ na ha)), by simp [hi]⟩
  · obtain ⟨rfl, y2⟩ := y
    obtain ⟨f, h1, rfl⟩ := mapIm hd
    obtain ⟨v, h2, h3⟩ := r.at' h1
    have := y2 us (.inl (.inl (e.kp a _ na ha)))
    rw [h2] at this
    cases this
    exact ⟨fun _ _ z => z, Rep.seen e nn n2 h3⟩
/-- a list that may change: as long as it does not -/
theorem wk_mu {i : Nat} {xs : List AV} (ha : M[i]? = some a) : Wk (Itl K a) N M H xs (fun m => m[i]? = some (.lst xs)) := by
  refine ⟨fun j N2 M2 H2 m2 hj e R g => ?_, fun N2 M2 H2 m2 e R g => ?_, fun j x d N2 M2 H2 H3 m2 hd _ e n2 R g y => ?_⟩
  · obtain ⟨us, h1, h2⟩ := R.cell i a _ (e.get ha) g
    have hj : j < us.length := by rw [pair_len h2]; exact hj
    exact ⟨us, us[j], .inl (.inl h1), by simp [hj]⟩
  · obtain ⟨us, h1, h2⟩ := R.cell i a _ (e.get ha) g
    exact ⟨us, .inl (.inl h1), Nat.le_of_eq (pair_len h2)⟩
  · obtain ⟨us, h1, h2⟩ := R.cell i a _ (e.get ha) g
    obtain ⟨rfl, y2⟩ := y
    obtain ⟨v, h3, h4⟩ := pair_at h2 hd
    have := y2 us (.inl (.inl h1))
    rw [h3] at this
    cases this
    have hi := (List.getElem?_eq_some_iff.mp (e.get ha)).1
    exact ⟨fun _ _ z => z, h4.up (by omega)⟩
theorem wk_pr {x y : AV} {u w : V} (na : a ∉ M ++ N) (ha : H a = some (.tup [u, w])) (r1 : RV M.length N M H u x) (r2 : RV M.length N M H w y) : Wk (Itt K a) N M H [x, y] yes := by
  refine ⟨fun i N2 M2 H2 m2 hi e _ _ => ⟨[u, w], [u, w][i]'hi, .inl (.inl (e.kp a _ na ha)), List.getElem?_eq_getElem (l := [u, w]) hi⟩, fun N2 M2 H2 m2 e _ _ => ⟨[u, w], .inl (.inl (e.kp a _ na ha)), Nat.le_refl _⟩, fun i v d N2 M2 H2 H3 m2 hd nn e n2 _ _ y' => ?_⟩
  obtain ⟨rfl, y2⟩ := y'
  have := y2 _ (.inl (.inl (e.kp a _ na ha)))
  have hide : ∀ {v : V} {d : AV}, RV M.length N M H v d → RV M2.length N2 M2 H3 v d := fun r => (RV.seen e nn n2 r).up e.pre.length_le
  match i, hd with
  | 0, hd => cases hd; cases this; exact ⟨fun _ _ z => z, hide r1⟩
  | 1, hd => cases hd; cases this; exact ⟨fun _ _ z => z, hide r2⟩
theorem wk_str {z : Str} : Wk (Its z) N M H (z.cps.toList.map fun c => .im (.str ⟨#[c]⟩)) yes := by
  refine ⟨fun i N2 M2 H2 m2 hi _ _ _ => by show i < z.cps.size; simpa using hi, fun N2 M2 H2 m2 _ _ _ => by show z.cps.size ≤ _; simp, fun i x d N2 M2 H2 H3 m2 hd nn e n2 _ _ y => ?_⟩
  obtain ⟨rfl, c, hc, rfl⟩ := y
  rw [List.getElem?_map, Array.getElem?_toList, hc] at hd
  cases hd
  exact ⟨fun _ _ z => z, .str _⟩
theorem wk_rng {lo : Int} {n : Nat} : Wk (Itr lo n) N M H ((List.range n).map fun i => .im (.int (lo + (i : Nat)))) yes := by
  refine ⟨fun i N2 M2 H2 m2 hi _ _ _ => by show i < n; simpa using hi, fun N2 M2 H2 m2 _ _ _ => by show n ≤ _; simp, fun i x d N2 M2 H2 H3 m2 hd nn e n2 _ _ y => ?_⟩
  obtain ⟨rfl, rfl⟩ := y
  have hi : i < n := by have := (List.getElem?_eq_some_iff.mp hd).1; simpa using this
  rw [List.getElem?_map, List.getElem?_range hi] at hd
  cases hd
  exact ⟨fun _ _ z => z, .int _⟩
end
section
variable {X : Cx} {B : Bk} {e tg : Expr} {t : TE} {w : WE} {K : PySem.W.Frag}
def wiTup (w : WE) : WI := fun ρ m P => w ρ m fun d m1 => match d with
  | .im (.tuple xs) => P (xs.map .im) yes m1
  | .pr x y => P [x, y] yes m1
  | _ => False
def wiList (w : WE) : WI := fun ρ m P => w ρ m fun d m1 => match d with
  | .im (.list xs) => P (xs.map .im) yes m1
  | .wl xs => P (xs.map .im) yes m1
  | .mu i => (match m1[i]? with | some (.lst xs) => P xs (fun m => m[i]? = some (.lst xs)) m1 | _ => False)
  | _ => False
def wiStr (w : WE) : WI := fun ρ m P => w ρ m fun d m1 => match d with
  | .im (.str z) => P (z.cps.toList.map fun c => .im (.str ⟨#[c]⟩)) yes m1
  | _ => False
theorem ai_tup (hK : X.K = K) (h : AE X B e t w) : AI X B tg e (iTup K t) (wiTup w) := ⟨hK ▸ pi_tup h.pe, fun N M H σ ρ m P R x0 S Rl hw q => h.le N M H σ ρ m _ _ x0 S Rl hw fun v d M1 H1 m1 x1 R1 r1 h1 => by
  split at h1
  · cases r1 with
    | tup n e z => exact ⟨_, rfl, ⟨_, .inl (.inl e)⟩, q _ _ yes M1 H1 m1 x1 R1 (wk_tup n e z) h1⟩
  · obtain ⟨a, u, w', rfl, n, e, s1, s2⟩ := r1
    exact ⟨_, rfl, ⟨_, .inl (.inl e)⟩, q _ _ yes M1 H1 m1 x1 R1 (wk_pr n e s1 s2) h1⟩
  · exact h1.elim⟩
theorem ai_list (hK : X.K = K) (h : AE X B e t w) : AI X B tg e (iList K t) (wiList w) := ⟨hK ▸ pi_list h.pe, fun N M H σ ρ m P R x0 S Rl hw q => h.le N M H σ ρ m _ _ x0 S Rl hw fun v d M1 H1 m1 x1 R1 r1 h1 => by
  split at h1
  · cases r1 with
    | lst n ne e z => exact ⟨_, rfl, ⟨_, .inl (.inl e)⟩, q _ _ yes M1 H1 m1 x1 R1 (wk_list n e z) h1⟩
  · obtain ⟨a, us, rfl, n, e, z⟩ := r1
    exact ⟨_, rfl, ⟨_, .inl (.inl e)⟩, q _ _ yes M1 H1 m1 x1 R1 (wk_list n e z) h1⟩
  · rename_i i
    obtain ⟨hi, a, ha, rfl⟩ := r1
    split at h1
    · rename_i xs ex
      obtain ⟨us, h3, h4⟩ := R1.cell i a _ ha ex
      exact ⟨a, rfl, ⟨_, .inl (.inl h3)⟩, q _ _ _ M1 H1 m1 x1 R1 (wk_mu ha) h1⟩
    · exact h1.elim
  · exact h1.elim⟩
theorem ai_str (h : AE X B e t w) : AI X B tg e (iStr t) (wiStr w) := ⟨pi_str h.pe, fun N M H σ ρ m P R x0 S Rl hw q => h.le N M H σ ρ m _ _ x0 S Rl hw fun v d M1 H1 m1 x1 R1 r1 h1 => by
  split at h1
  · cases r1
    exact ⟨_, rfl, q _ _ yes M1 H1 m1 x1 R1 wk_str h1⟩
  · exact h1.elim⟩
variable {ta : TA} {wa : WL} {a b : Expr} {p pos : Pos}
abbrev Lim (i : Int) : Prop := -(2 ^ 62) ≤ i ∧ i < 2 ^ 62
def rngL (lo : Int) (n : Nat) : List AV := (List.range n).map fun i => .im (.int (lo + (i : Nat)))
def wiR1 (wa : WL) : WI := fun ρ m P => wa ρ m fun ds m1 => match ds with
  | [.im (.int j)] => Lim j ∧ P (rngL 0 j.toNat) yes m1
  | _ => False
def wiR2 (wa : WL) : WI := fun ρ m P => wa ρ m fun ds m1 => match ds with
  | [.im (.int i), .im (.int j)] => Lim i ∧ Lim j ∧ P (rngL i (j - i).toNat) yes m1
  | _ => False
theorem ai_r1 (hg : Gl X "range") (hm : X.mg "range" = none) (ha : AL X B [a] ta wa) (hs : starEach [a] X.env = [(false, eval a X.env)] := by rfl) : AI X B tg (.Call (.Name "range" p) [a] [] pos) (iRng1 ta) (wiR1 wa) :=
  ⟨pi_range1 hg hm ha.pa hs, fun N M H σ ρ m P R x0 S Rl hw q => ha.la N M H σ ρ m _ _ x0 S Rl hw fun vs ds M1 H1 m1 x1 R1 r1 h1 => by
    split at h1
    · rename_i j
      cases r1 with
      | cons r1 rr =>
        cases rr
        cases r1
        exact ⟨j, rfl, h1.1.1, h1.1.2, q _ _ yes M1 H1 m1 x1 R1 wk_rng h1.2⟩
    · exact h1.elim⟩
theorem ai_r2 (hg : Gl X "range") (hm : X.mg "range" = none) (ha : AL X B [a, b] ta wa) (hs : starEach [a, b] X.env = [(false, eval a X.env), (false, eval b X.env)] := by rfl) (hs2 : starEach [b] X.env = [(false, eval b X.env)] := by rfl) : AI X B tg (.Call (.Name "range" p) [a, b] [] pos) (iRng2 ta) (wiR2 wa) :=
  ⟨pi_range2 hg hm ha.pa hs hs2, fun N M H σ ρ m P R x0 S Rl hw q => ha.la N M H σ ρ m _ _ x0 S Rl hw fun vs ds M1 H1 m1 x1 R1 r1 h1 => by
    split at h1
    · rename_i i j
      cases r1 with
      | cons r1 rr =>
        cases rr with
        | cons r2 rr =>
          cases rr
          cases r1
          cases r2
          exact ⟨i, j, rfl, ⟨h1.1.1, h1.1.2, h1.2.1.1, h1.2.1.2⟩, q _ _ yes M1 H1 m1 x1 R1 wk_rng h1.2.2⟩
    · exact h1.elim⟩
end
/-! ### comprehensions -/
theorem wipe_set (σ : L2.St) (i : Nat) (v : Option V) : ∀ vs : List Nat, i ∈ vs → wipe (σ.set i v) vs = wipe σ vs
  | [], h => nomatch h
  | j :: vs, h => by
    unfold wipe
    by_cases z : i = j
    · subst z
      by_cases y : i ∈ vs
      · rw [wipe_set σ i v vs y]
      · have c : ∀ ws : List Nat, i ∉ ws → wipe (σ.set i v) ws = (wipe σ ws).set i v := fun ws => by
          induction ws with
          | nil => intro _; rfl
          | cons k ws ih =>
            intro hk
            simp only [List.mem_cons, not_or] at hk
            unfold wipe
            rw [ih hk.2, List.set_comm _ _ (hk.1)]
        rw [c vs y, List.set_set]
    · rw [wipe_set σ i v vs ((List.mem_cons.mp h).resolve_left z)]
theorem set_none_none (σ : L2.St) (i : Nat) : (σ.set i none).set i none = σ.set i none := List.set_set ..
theorem wipe_comm (σ : L2.St) (i : Nat) : ∀ vs : List Nat, wipe (σ.set i none) vs = (wipe σ vs).set i none
  | [] => rfl
  | j :: vs => by
    unfold wipe
    rw [wipe_comm σ i vs]
    by_cases z : i = j
    · subst z; rfl
    · rw [List.set_comm _ _ z]
theorem wipe_wipe (σ : L2.St) : ∀ vs : List Nat, wipe (wipe σ vs) vs = wipe σ vs
  | [] => rfl
  | j :: vs => by
    show (wipe ((wipe σ vs).set j none) vs).set j none = (wipe σ vs).set j none
    rw [wipe_comm, wipe_wipe σ vs, List.set_set]
def wipeS (ρ : Slots) : List Nat → Slots
  | [] => ρ
  | v :: vs => (wipeS ρ vs).set v none
theorem SR.setN {N M : List Addr} {H : Hp} {σ : L2.St} {ρ : Slots} (S : SR N M H σ ρ) (i : Nat) : SR N M H (σ.set i none) (ρ.set i none) := by
  refine ⟨by simp [S.1], fun j e h => ?_⟩
  by_cases z : i = j
  · subst z
    have hl : i < ρ.length := by have := (List.getElem?_eq_some_iff.mp h).1; simpa using this
    rw [List.getElem?_set_self hl] at h
    cases h
  · rw [List.getElem?_set_ne z] at h ⊢
    exact S.2 j e h
theorem SR.wipe {N M : List Addr} {H : Hp} {σ : L2.St} {ρ : Slots} (S : SR N M H σ ρ) : ∀ vs : List Nat, SR N M H (L2.wipe σ vs) (wipeS ρ vs)
  | [] => S
  | v :: vs => (S.wipe vs).setN v
/-- a target that stores into the comprehension's own slots alone -/
def Own (g : TG) (vs : List Nat) : Prop := ∀ v σ H Q, g v σ H Q → g v σ H fun σ2 H2 => wipe σ2 vs = wipe σ vs ∧ Q σ2 H2
def Owns (g : TGs) (vs : List Nat) : Prop := ∀ xs σ H Q, g xs σ H Q → g xs σ H fun σ2 H2 => wipe σ2 vs = wipe σ vs ∧ Q σ2 H2
theorem own_name {i : Nat} {vs : List Nat} (h : i ∈ vs) : Own (gName i) vs := fun v σ H Q q => ⟨wipe_set σ i _ vs h, q⟩
theorem owns_nil {vs : List Nat} : Owns gNil vs := fun xs σ H Q ⟨a, q⟩ => ⟨a, rfl, q⟩
/-- a reading of targets can be weakened -/
def GMono (g : TG) : Prop := ∀ v σ H (Q Q' : L2.St → Hp → Prop), g v σ H Q → (∀ σ2 H2, Q σ2 H2 → Q' σ2 H2) → g v σ H Q'
def GsMono (g : TGs) : Prop := ∀ v σ H (Q Q' : L2.St → Hp → Prop), g v σ H Q → (∀ σ2 H2, Q σ2 H2 → Q' σ2 H2) → g v σ H Q'
theorem mono_name (i : Nat) : GMono (gName i) := fun v σ H Q Q' q h => h _ _ q
theorem mono_nil : GsMono gNil := fun v σ H Q Q' ⟨a, q⟩ h => ⟨a, h _ _ q⟩
theorem mono_cons {g : TG} {gs : TGs} (a : GMono g) (b : GsMono gs) : GsMono (gCons g gs) := fun v σ H Q Q' ⟨x, r, e, q⟩ h => ⟨x, r, e, a _ _ _ _ _ q fun _ _ q => b _ _ _ _ _ q h⟩
theorem mono_tup {K : PySem.W.Frag} {n : Nat} {gs : TGs} (b : GsMono gs) : GMono (gTup K n gs) := fun v σ H Q Q' ⟨a, xs, e, s, l, q⟩ h => ⟨a, xs, e, s, l, b _ _ _ _ _ q h⟩
theorem owns_cons {g : TG} {gs : TGs} {vs : List Nat} (m : GMono g) (mm : GsMono gs) (a : Own g vs) (b : Owns gs vs) : Owns (gCons g gs) vs := fun xs σ H Q ⟨x, r, e, q⟩ =>
  ⟨x, r, e, m _ _ _ _ _ (a _ _ _ _ q) fun σ2 H2 ⟨e2, q⟩ => mm _ _ _ _ _ (b _ _ _ _ q) fun σ3 H3 ⟨e3, q⟩ => ⟨e3.trans e2, q⟩⟩
theorem own_tup {K : PySem.W.Frag} {n : Nat} {gs : TGs} {vs : List Nat} (b : Owns gs vs) : Own (gTup K n gs) vs := fun v σ H Q ⟨a, xs, e, s, l, q⟩ => ⟨a, xs, e, s, l, b _ _ _ _ q⟩
abbrev WTs := Slots → Store → (Bool → Store → Prop) → Prop
def wYes : WT := fun _ m P => P true m
theorem lt_yes {B : Bk} : LT B tYes wYes := fun N M H σ ρ m P Q x0 S R h q => q true M H m .refl R h
structure ATs (X : Cx) (B : Bk) (ifs : List Expr) (t : TT) (w : WT) : Prop where
  pt : PTs X ifs t
  lt : LT B t w
section
variable {X : Cx} {B : Bk} {c : Expr} {t : TT} {w : WT}
theorem ts_nil : ATs X B [] tYes wYes := ⟨pts_nil, lt_yes⟩
theorem ts_one (h : AT X B c t w) : ATs X B [c] t w := ⟨pts_one h.pt, h.lt⟩
end
/-- the items found, one after another; what a turn made that may change is forgotten -/
def lcL (n : Nat) (G : Store → Prop) (f : AV → Store → (Option AV → Store → Prop) → Prop) : List AV → Store → (List AV → Store → Prop) → Prop
  | [], m, P => G m ∧ P [] m
  | x :: r, m, P => G m ∧ f x m fun y m1 => (∀ z, y = some z → z.und n = true) ∧ lcL n G f r (m1.take n) fun ys m2 => P (match y with | some z => z :: ys | none => ys) m2
def turnL (vs : List Nat) (wg : WG) (wt : WT) (we : WE) (ρ : Slots) : AV → Store → (Option AV → Store → Prop) → Prop := fun x m K => wg x (wipeS ρ vs) m fun ρ2 m2 => wt ρ2 m2 fun b m3 => if b = true then we ρ2 m3 fun y m4 => K (some y) m4 else K none m3
def wLcs (vs : List Nat) (wi : WI) (wg : WG) (wt : WT) (we : WE) (ρ : Slots) (m : Store) (P : List AV → Store → Prop) : Prop := wi ρ m fun xs G m1 => xs.length ≤ sizeLine ∧ lcL m1.length G (turnL vs wg wt we ρ) xs m1 P
theorem lcL_mono {n : Nat} {G : Store → Prop} {f : AV → Store → (Option AV → Store → Prop) → Prop} (fm : ∀ x m K K', f x m K → (∀ y m, K y m → K' y m) → f x m K') : ∀ {xs : List AV} {m : Store} {P Q : List AV → Store → Prop}, lcL n G f xs m P → (∀ ys m, P ys m → Q ys m) → lcL n G f xs m Q
  | [], _, _, _, h, q => ⟨h.1, q _ _ h.2⟩
  | x :: r, m, _, _, h, q => ⟨h.1, fm _ _ _ _ h.2 fun y m1 ⟨a, b⟩ => ⟨a, lcL_mono fm b fun ys m2 => q _ m2⟩⟩
/-- the list as it stands behind the walk: D, ys -/
theorem le_lcs {B : Bk} {wi : TI} {g : TG} {tt : TT} {te : TE} {vs : List Nat} {w : WI} {wg : WG} {wt : WT} {we : WE} (hi : LI B wi w) (hg : LG B g wg) (ho : Own g vs) (hgm : GMono g) (ht : LT B tt wt) (he : LE B te we)
    {N M : List Addr} {H : Hp} {σ : L2.St} {ρ : Slots} {m : Store} {P : List AV → Store → Prop} {Q : VK} (x0 : B.Ok N M H) (S : SR N M H σ ρ) (R : Rel N M H m) (h : wLcs vs w wg wt we ρ m P)
    (q : ∀ D us ys M' H' m', Ext M H M' H' → H D = none → D ∉ M' → D ∉ N → H' D = some (.lst us) → Rel (D :: N) M' H' m' → RVs M'.length (D :: N) M' H' us ys → us.length ≤ sizeLine → P ys m' → Q (.ref D) H') : tLc wi g tt te vs σ H Q := by
  refine hi N M H σ ρ m _ _ x0 S R h fun J xs G M1 H1 m1 x1 R1 wk ⟨hz, h1⟩ => fun D hD => ?_
  have nD : D ∉ M1 := R1.liveM.fresh hD
  have nDN : D ∉ N := fun z => by obtain ⟨o, e⟩ := R1.there D z; rw [hD] at e; cases e
  refine ⟨fun i k H' => k = xs.length - i ∧ i ≤ xs.length ∧ ∃ M' m' us acc, Ext M1 H1 M' H' ∧ M'.length = M1.length ∧ D ∉ M' ∧ H' D = some (.lst us) ∧ us.length ≤ i ∧ SR (D :: N) M' H' σ ρ ∧ Rel (D :: N) M' H' m' ∧ RVs M'.length (D :: N) M' H' us acc ∧
    lcL m1.length G (turnL vs wg wt we ρ) (xs.drop i) m' fun ys m'' => P (acc ++ ys) m'', ⟨_, rfl, Nat.zero_le _, M1, m1, [], [], .alloc hD, rfl, nD, upd_same, Nat.le_refl _, (S.ext x1).hide hD, R1.hide hD, .nil, by simpa using h1⟩, ?_⟩
  rintro i k H' ⟨rfl, hi, M', m', us, acc, x2, l2, nD2, eD, lu, S2, R2, ra, h2⟩
  have old : ∀ b ∈ D :: N, b ∈ N ∨ H1 b = none := fun b hb => (List.mem_cons.mp hb).elim (fun z => .inr (by rw [z]; exact hD)) .inl
  by_cases hlt : i < xs.length
  · rw [List.drop_eq_getElem_cons hlt] at h2
    obtain ⟨g0, h2⟩ := h2
    refine .inr ⟨wk.goes i (D :: N) M' H' m' hlt x2.toN R2 g0, fun H3 => ∃ M3 m3 us3 acc3, Ext M1 H1 M3 H3 ∧ D ∉ M3 ∧ H3 D = some (.lst us3) ∧ us3.length ≤ i + 1 ∧ SR (D :: N) M3 H3 σ ρ ∧ Rel (D :: N) M3 H3 m3 ∧ RVs M1.length (D :: N) (M3.take M1.length) H3 us3 acc3 ∧
      lcL m1.length G (turnL vs wg wt we ρ) (xs.drop (i + 1)) (m3.take m1.length) fun ys m'' => P (acc3 ++ ys) m'', ?_, ?_⟩
    · rintro H3 ⟨M3, m3, us3, acc3, x3, nD3, eD3, lu3, S3, R3, ra3, h3⟩
      have c := x3.take
      refine ⟨xs.length - (i + 1), by omega, rfl, hlt, M3.take M1.length, _, us3, acc3, x3.cut, by rw [c], fun z => nD3 (List.mem_of_mem_take z), eD3, lu3, ?_, ?_, ?_, h3⟩
      · rw [c]
        have e3 : Ext M1 H1 M1 H3 := by have := x3.cut; rwa [c] at this
        exact ⟨S3.1, fun j d hj => by
          obtain ⟨v, a1, a2⟩ := (S.ext x1).2 j d hj
          obtain ⟨v', b1, b2⟩ := S3.2 j d hj
          rw [a1] at b1; cases b1
          refine ⟨v, a1, ?_⟩
          exact RV.seen e3.toN (fun b z => List.mem_cons_of_mem _ z) old a2⟩
      · rw [← R1.len]; exact R3.cut _
      · rw [c] at ra3 ⊢; exact ra3
    · intro x H3 y
      obtain ⟨k3, rx⟩ := wk.yields i x xs[i] (D :: N) M' H' H3 m' (List.getElem?_eq_getElem hlt) (fun _ z => List.mem_cons_of_mem _ z) x2.toN old R2 g0 y
      obtain ⟨R3, x3⟩ := R2.kept k3
      have b0 : B.Ok (D :: N) M' H3 := (((x0.trans x1).trans x2).trans x3).hide D
      refine hgm _ _ _ _ _ (ho _ _ _ _ (hg (D :: N) M' H3 (wipe σ vs) (wipeS ρ vs) m' x _ _ (fun σ2 H2 => wipe σ2 vs = wipe (wipe σ vs) vs → tt σ2 H2 fun b H3 => if b = true then te σ2 H3 fun y H4 => ∃ acc, H4 D = some (.lst acc) ∧ acc.length < sizeLine ∧ (fun H3 => ∃ M3 m3 us3 acc3, Ext M1 H1 M3 H3 ∧ D ∉ M3 ∧ H3 D = some (.lst us3) ∧ us3.length ≤ i + 1 ∧ SR (D :: N) M3 H3 σ ρ ∧ Rel (D :: N) M3 H3 m3 ∧ RVs M1.length (D :: N) (M3.take M1.length) H3 us3 acc3 ∧
      lcL m1.length G (turnL vs wg wt we ρ) (xs.drop (i + 1)) (m3.take m1.length) fun ys m'' => P (acc3 ++ ys) m'') (upd H4 D (.lst (acc ++ [y]))) else (fun H3 => ∃ M3 m3 us3 acc3, Ext M1 H1 M3 H3 ∧ D ∉ M3 ∧ H3 D = some (.lst us3) ∧ us3.length ≤ i + 1 ∧ SR (D :: N) M3 H3 σ ρ ∧ Rel (D :: N) M3 H3 m3 ∧ RVs M1.length (D :: N) (M3.take M1.length) H3 us3 acc3 ∧
      lcL m1.length G (turnL vs wg wt we ρ) (xs.drop (i + 1)) (m3.take m1.length) fun ys m'' => P (acc3 ++ ys) m'') H3) b0 ((S2.ext x3).wipe vs) R3 rx h2 ?_)) fun σ2 H2 ⟨e2, q2⟩ => ⟨e2.trans (wipe_wipe σ vs), q2 e2⟩
      intro M4 H4 σ4 ρ4 m4 x4 S4 R4 h4 _
      refine ht (D :: N) M4 H4 σ4 ρ4 m4 _ _ (b0.trans x4) S4 R4 h4 fun b M5 H5 m5 x5 R5 h5 => ?_
      have nD5 : ∀ {M6 : List Addr} {H6 : Hp}, Ext M' H' M6 H6 → D ∉ M6 := fun e z => by have := e.new D z nD2; rw [eD] at this; cases this
      have hD5 : ∀ {M6 : List Addr} {H6 : Hp}, Ext M' H' M6 H6 → H6 D = some (.lst us) := fun e => e.kp D _ nD2 eD
      cases b with
      | true =>
        simp only [if_true] at h5 ⊢
        refine he (D :: N) M5 H5 σ4 ρ4 m5 _ _ ((b0.trans x4).trans x5) (S4.ext x5) R5 h5 fun v d M6 H6 m6 x6 R6 r6 h6 => ?_
        have xx := ((x3.trans x4).trans x5).trans x6
        have x16 := x2.trans xx
        have hin : D ∈ D :: N := List.mem_cons_self
        refine ⟨us, hD5 xx, by have := hz; omega, M6, m6, us ++ [v], acc ++ [d], ?_, nD5 xx, upd_same, by simp; omega, ((S2.ext xx).hid hin), R6.hid hin (nD5 xx), ?_, ?_⟩
        · refine ⟨x16.pre, fun b o nb hb => ?_, fun b h1 h2 => x16.new b h1 h2⟩
          rw [upd_ne (fun z : b = D => by rw [z, hD] at hb; cases hb)]
          exact x16.kp b o nb hb
        · have t6 := x16.take
          have ra6 := RVs.ext xx ra
          rw [l2] at ra6
          have hle : M1.length ≤ M6.length := x16.len
          refine pair_app (pair_imp (fun _ _ r => RV.cut (Nat.le_refl _) (r.hid hin)) ra6) (.cons ?_ .nil)
          have u := h6.1 d rfl
          rw [← R1.len] at u
          exact (r6.und hle u).hid hin
        · have := h6.2
          simpa [List.append_assoc] using this
      | false =>
        simp only [Bool.false_eq_true, if_false] at h5 ⊢
        have xx := (x3.trans x4).trans x5
        have x15 := x2.trans xx
        have hle : M1.length ≤ M5.length := x15.len
        have ra5 := RVs.ext xx ra
        rw [l2] at ra5
        exact ⟨M5, m5, us, acc, x15, nD5 xx, hD5 xx, by omega, S2.ext xx, R5, pair_imp (fun _ _ r => RV.cut (Nat.le_refl _) r) ra5, h5.2⟩
  · have e : i = xs.length := by omega
    subst e
    rw [List.drop_length] at h2
    refine .inl ⟨wk.stops (D :: N) M' H' m' x2.toN R2 h2.1, ?_⟩
    exact q D us acc M' H' m' (x1.trans x2) (x1.none (fun z => nD (x1.sub D z)) hD) nD2 nDN eD R2 ra (by omega) (by simpa using h2.2)
section
variable {X : Cx} {B : Bk} {elt tg iter : Expr} {ifs : List Expr} {scope : Scope} {own : List (Str × Nat)} {pos spos : Pos} {wi : TI} {g : TG} {tt : TT} {te : TE} {w : WI} {wg : WG} {wt : WT} {we : WE}
/-- [elt for tg in iter if ..] -/
def wLc (vs : List Nat) (wi : WI) (wg : WG) (wt : WT) (we : WE) : WE := fun ρ m P => wLcs vs wi wg wt we ρ m fun ys m1 => match ims ys with | some xs => P (.wl xs) m1 | none => False
/-- .. a list that may change -/
def wLcM (vs : List Nat) (wi : WI) (wg : WG) (wt : WT) (we : WE) : WE := fun ρ m P => wLcs vs wi wg wt we ρ m fun ys m1 => P (.mu m1.length) (m1 ++ [.lst ys])
theorem le_lc {vs : List Nat} (hi : LI B wi w) (hg : LG B g wg) (ho : Own g vs) (hgm : GMono g) (ht : LT B tt wt) (he : LE B te we) : LE B (tLc wi g tt te vs) (wLc vs w wg wt we) := fun N M H σ ρ m P Q x0 S R h q =>
  le_lcs hi hg ho hgm ht he x0 S R h fun D us ys M' H' m' x nD nM nN eD R' r z p => by
    split at p
    · rename_i xs e
      have rr := ims_of r e
      exact q _ (.wl xs) M' H' m' x R'.less ⟨D, us, rfl, fun z => (List.mem_append.mp z).elim nM nN, eD, rr.less fun b z => (List.mem_append.mp z).elim (List.mem_append_left _) fun z => List.mem_append_right _ (List.mem_cons_of_mem _ z)⟩ p
    · exact p.elim
theorem le_lcM {vs : List Nat} (hi : LI B wi w) (hg : LG B g wg) (ho : Own g vs) (hgm : GMono g) (ht : LT B tt wt) (he : LE B te we) : LE B (tLc wi g tt te vs) (wLcM vs w wg wt we) := fun N M H σ ρ m P Q x0 S R h q =>
  le_lcs hi hg ho hgm ht he x0 S R h fun D us ys M' H' m' x nD nM nN eD R' r z p => by
    have x2 : Ext M H (M' ++ [D]) H' := by
      refine ⟨x.pre.trans (List.prefix_append _ _), fun b o nb hb => x.kp b o nb hb, fun b h1 h2 => ?_⟩
      rcases List.mem_append.mp h1 with h1 | h1
      · exact x.new b h1 h2
      · rw [List.mem_singleton.mp h1]; exact nD
    have mv : ∀ {k : Nat} {v : V} {d : AV}, RV k (D :: N) M' H' v d → RV k N (M' ++ [D]) H' v d := fun {k v d} r => by
      have sub : ∀ b, b ∈ (M' ++ [D]) ++ N → b ∈ M' ++ D :: N := fun b z => by
        simp only [List.mem_append, List.mem_cons, List.mem_singleton, List.not_mem_nil, or_false] at z ⊢
        rcases z with (z | z) | z
        · exact .inl z
        · exact .inr (.inl z)
        · exact .inr (.inr z)
      induction d generalizing v with
      | im d => exact Gd.Rep.less sub r
      | mu i => obtain ⟨h, a, h1, h2⟩ := r; exact ⟨h, a, by rw [List.getElem?_append_left (List.getElem?_eq_some_iff.mp h1).1]; exact h1, h2⟩
      | pr p q i1 i2 => obtain ⟨b, s, t, h1, h2, h3, r1, r2⟩ := r; exact ⟨b, s, t, h1, fun z => h2 (sub b z), h3, i1 r1, i2 r2⟩
      | wl xs => obtain ⟨b, us, h1, h2, h3, r⟩ := r; exact ⟨b, us, h1, fun z => h2 (sub b z), h3, Gd.Reps.less sub r⟩
    refine q _ (.mu m'.length) (M' ++ [D]) H' (m' ++ [.lst ys]) x2 ⟨nodup_snoc R'.nd nM, by simp [R'.len], fun i a c h1 h2 => ?_, fun a ha => R'.there a (List.mem_cons_of_mem _ ha)⟩ ⟨by simp [R'.len], D, by rw [← R'.len]; simp, rfl⟩ p
    rcases getD_snoc h1 with g1 | ⟨g1, g2⟩
    · rcases getD_snoc h2 with g3 | ⟨g3, g4⟩
      · exact (R'.cell i a c g1 g3).map (a' := a) (fun _ _ r => mv r) fun _ z => z
      · have := (List.getElem?_eq_some_iff.mp g1).1
        rw [R'.len] at this; omega
    · rcases getD_snoc h2 with g3 | ⟨g3, g4⟩
      · have := (List.getElem?_eq_some_iff.mp g3).1
        rw [R'.len] at g1; omega
      · subst g2 g4
        exact ⟨us, eD, by rw [g1]; exact pair_imp (fun _ _ r => mv r) r⟩
theorem ae_lc (hc : X.calm = true) (hN : X.N.Nodup) (hi : AI X B tg iter wi w) (ok : BlkOk X.N X.env.scope scope own)
    (hg : ∀ (s : Shared) (H : Hp) (C : Addr) (cl : List (Str × Addr)) (fp : List Addr), AG (X.blk s H scope (compEnvC scope cl C X.env) fp) B tg g wg) (ho : Own g (own.map (·.2))) (hgm : GMono g)
    (ht : ∀ (s : Shared) (H : Hp) (C : Addr) (cl : List (Str × Addr)) (fp : List Addr), ATs (X.blk s H scope (compEnvC scope cl C X.env) fp) B ifs tt wt)
    (he : ∀ (s : Shared) (H : Hp) (C : Addr) (cl : List (Str × Addr)) (fp : List Addr), AE (X.blk s H scope (compEnvC scope cl C X.env) fp) B elt te we) (hs : ∀ x, foldedSetIterable iter X.env x = pure x := by intro _; rfl) :
    AE X B (.ListComp elt [⟨tg, iter, ifs, 0⟩] scope pos) (tLc wi g tt te (own.map (·.2))) (wLc (own.map (·.2)) w wg wt we) :=
  ⟨pe_lc hc hN hi.pi ok (fun s H C cl fp => (hg s H C cl fp).pg) (fun s H C cl fp => (ht s H C cl fp).pt) (fun s H C cl fp => (he s H C cl fp).pe) hs, le_lc hi.li (hg X.s_0 X.H_0 X.env.locals [] []).lg ho hgm (ht X.s_0 X.H_0 X.env.locals [] []).lt (he X.s_0 X.H_0 X.env.locals [] []).le⟩
theorem ae_lcM (hc : X.calm = true) (hN : X.N.Nodup) (hi : AI X B tg iter wi w) (ok : BlkOk X.N X.env.scope scope own)
    (hg : ∀ (s : Shared) (H : Hp) (C : Addr) (cl : List (Str × Addr)) (fp : List Addr), AG (X.blk s H scope (compEnvC scope cl C X.env) fp) B tg g wg) (ho : Own g (own.map (·.2))) (hgm : GMono g)
    (ht : ∀ (s : Shared) (H : Hp) (C : Addr) (cl : List (Str × Addr)) (fp : List Addr), ATs (X.blk s H scope (compEnvC scope cl C X.env) fp) B ifs tt wt)
    (he : ∀ (s : Shared) (H : Hp) (C : Addr) (cl : List (Str × Addr)) (fp : List Addr), AE (X.blk s H scope (compEnvC scope cl C X.env) fp) B elt te we) (hs : ∀ x, foldedSetIterable iter X.env x = pure x := by intro _; rfl) :
    AE X B (.ListComp elt [⟨tg, iter, ifs, 0⟩] scope pos) (tLc wi g tt te (own.map (·.2))) (wLcM (own.map (·.2)) w wg wt we) :=
  ⟨pe_lc hc hN hi.pi ok (fun s H C cl fp => (hg s H C cl fp).pg) (fun s H C cl fp => (ht s H C cl fp).pt) (fun s H C cl fp => (he s H C cl fp).pe) hs, le_lcM hi.li (hg X.s_0 X.H_0 X.env.locals [] []).lg ho hgm (ht X.s_0 X.H_0 X.env.locals [] []).lt (he X.s_0 X.H_0 X.env.locals [] []).le⟩
/-- name = [..] -/
theorem s_setLc {i : Nat} {y : Str} {py : Pos} (hc : X.calm = true) (hN : X.N.Nodup) (hy : X.N[i]? = some y) (hyl : X.env.scope.names.lookup y = some .local)
    (hsw : swapsWith (.ListComp elt [⟨tg, iter, ifs, 0⟩] scope pos) (some (.Name y py)) spos.line X.env = pure true) (hi : AI X B tg iter wi w) (ok : BlkOk X.N X.env.scope scope own)
    (hg : ∀ (s : Shared) (H : Hp) (C : Addr) (cl : List (Str × Addr)) (fp : List Addr), AG (X.blk s H scope (compEnvC scope cl C X.env) fp) B tg g wg) (ho : Own g (own.map (·.2))) (hgm : GMono g)
    (ht : ∀ (s : Shared) (H : Hp) (C : Addr) (cl : List (Str × Addr)) (fp : List Addr), ATs (X.blk s H scope (compEnvC scope cl C X.env) fp) B ifs tt wt)
    (he : ∀ (s : Shared) (H : Hp) (C : Addr) (cl : List (Str × Addr)) (fp : List Addr), AE (X.blk s H scope (compEnvC scope cl C X.env) fp) B elt te we) (hs : ∀ x, foldedSetIterable iter X.env x = pure x := by intro _; rfl) :
    AS X B (.Assign [.Name y py] (.ListComp elt [⟨tg, iter, ifs, 0⟩] scope pos) spos) (tAsg (tLc wi g tt te (own.map (·.2))) (gName i)) (wAsg (wLc (own.map (·.2)) w wg wt we) (wgN i)) :=
  ⟨ps_setLc hc hN hy hyl hsw hi.pi ok (fun s H C cl fp => (hg s H C cl fp).pg) (fun s H C cl fp => (ht s H C cl fp).pt) (fun s H C cl fp => (he s H C cl fp).pe) hs, ls_asg (le_lc hi.li (hg X.s_0 X.H_0 X.env.locals [] []).lg ho hgm (ht X.s_0 X.H_0 X.env.locals [] []).lt (he X.s_0 X.H_0 X.env.locals [] []).le) (lg_name i)⟩
theorem s_setLcM {i : Nat} {y : Str} {py : Pos} (hc : X.calm = true) (hN : X.N.Nodup) (hy : X.N[i]? = some y) (hyl : X.env.scope.names.lookup y = some .local)
    (hsw : swapsWith (.ListComp elt [⟨tg, iter, ifs, 0⟩] scope pos) (some (.Name y py)) spos.line X.env = pure true) (hi : AI X B tg iter wi w) (ok : BlkOk X.N X.env.scope scope own)
    (hg : ∀ (s : Shared) (H : Hp) (C : Addr) (cl : List (Str × Addr)) (fp : List Addr), AG (X.blk s H scope (compEnvC scope cl C X.env) fp) B tg g wg) (ho : Own g (own.map (·.2))) (hgm : GMono g)
    (ht : ∀ (s : Shared) (H : Hp) (C : Addr) (cl : List (Str × Addr)) (fp : List Addr), ATs (X.blk s H scope (compEnvC scope cl C X.env) fp) B ifs tt wt)
    (he : ∀ (s : Shared) (H : Hp) (C : Addr) (cl : List (Str × Addr)) (fp : List Addr), AE (X.blk s H scope (compEnvC scope cl C X.env) fp) B elt te we) (hs : ∀ x, foldedSetIterable iter X.env x = pure x := by intro _; rfl) :
    AS X B (.Assign [.Name y py] (.ListComp elt [⟨tg, iter, ifs, 0⟩] scope pos) spos) (tAsg (tLc wi g tt te (own.map (·.2))) (gName i)) (wAsg (wLcM (own.map (·.2)) w wg wt we) (wgN i)) :=
  ⟨ps_setLc hc hN hy hyl hsw hi.pi ok (fun s H C cl fp => (hg s H C cl fp).pg) (fun s H C cl fp => (ht s H C cl fp).pt) (fun s H C cl fp => (he s H C cl fp).pe) hs, ls_asg (le_lcM hi.li (hg X.s_0 X.H_0 X.env.locals [] []).lg ho hgm (ht X.s_0 X.H_0 X.env.locals [] []).lt (he X.s_0 X.H_0 X.env.locals [] []).le) (lg_name i)⟩
end
end Ab
end

section
set_option maxRecDepth 100000
set_option maxHeartbeats 4000000
/-! Readings over data: operators, subscripts, built-ins, one rule for each word of the language. -/
namespace Ab
open PySem PySem.Spec PyProof.Rows L2 Gd
section
variable {n : Nat} {N M : List Addr} {H : Hp}
theorem RV.int (i : Int) : RV n N M H (.int i) (.im (.int i)) := Gd.Rep.int i
theorem RV.str (x : Str) : RV n N M H (.str x) (.im (.str x)) := Gd.Rep.str x
theorem RV.bl (b : Bool) : RV n N M H (.bl b) (.im (.bool b)) := Gd.Rep.bl b
theorem RV.non : RV n N M H .non (.im .none) := Gd.Rep.non
theorem RV.of {v : V} {d : PyData} (r : Rep (M ++ N) H v d) : RV n N M H v (.im d) := r
end
/-- the items of a list, of a tuple, of either -/
def asL (d : AV) (m : Store) : Option (List PyData) := match d with
  | .im (.list xs) => some xs
  | .wl xs => some xs
  | .mu i => (match m[i]? with | some (.lst xs) => ims xs | _ => none)
  | _ => none
def asT (d : AV) : Option (List PyData) := match d with
  | .im (.tuple xs) => some xs
  | _ => none
section
variable {N M : List Addr} {H : Hp} {m : Store} {v : V} {d : AV} {xs : List PyData}
theorem asL_of (R : Rel N M H m) (r : RV M.length N M H v d) (h : asL d m = some xs) : ∃ a us, v = .ref a ∧ H a = some (.lst us) ∧ Reps (M ++ N) H us xs := by
  unfold asL at h
  split at h
  · cases h
    cases r with
    | lst n ne e z => exact ⟨_, _, rfl, e, z⟩
  · cases h
    obtain ⟨a, us, rfl, _, e, z⟩ := r
    exact ⟨a, us, rfl, e, z⟩
  · rename_i i
    split at h
    · rename_i ys e
      obtain ⟨_, a, ha, rfl⟩ := r
      obtain ⟨us, h1, h2⟩ := R.cell i a _ ha e
      exact ⟨a, us, rfl, h1, ims_of h2 h⟩
    · cases h
  · cases h
theorem asT_of (r : RV M.length N M H v d) (h : asT d = some xs) : ∃ a us, v = .ref a ∧ a ∉ M ++ N ∧ H a = some (.tup us) ∧ Reps (M ++ N) H us xs := by
  unfold asT at h
  split at h
  · cases h
    cases r with
    | tup n e z => exact ⟨_, _, rfl, n, e, z⟩
  · cases h
/-- what a value reads as -/
def dat (d : AV) (m : Store) : Option PyData := match d with
  | .im x => some x
  | .pr _ _ => none
  | d => (asL d m).map .list
theorem dat_of {X : Cx} {pins : List (Addr × Obj)} {σ : L2.St} {s : Shared} {u : Value} {x : PyData} (I : Inv X pins σ H s) (R : Rel N M H m) (r : RV M.length N M H v d) (h : dat d m = some x) (ru : RelV v u) (nd : (∀ y, d = .im y → False) → x.hasDict = false) :
    ∃ as, Reads s.heap u x as ∧ (x.hasDict = true → sysModules ∉ as) := by
  have main : ∀ xs, asL d m = some xs → ∃ as, Reads s.heap u (.list xs) as := fun xs e => by
    obtain ⟨a, us, rfl, e1, z⟩ := asL_of R r e
    cases ru
    obtain ⟨_, its, n, rv, h1⟩ := (show ObjOk X.prog X.w H s.heap _ (.lst _) from I.hok _ _ e1)
    obtain ⟨as, z, _⟩ := Reps.reads I z rv
    exact ⟨_, .list h1 rfl rfl z⟩
  unfold dat at h
  split at h
  · cases h
    obtain ⟨as, a, b⟩ := Gd.Rep.reads I r ru
    exact ⟨as, a, fun _ => b⟩
  · cases h
  · rename_i n1 n2
    obtain ⟨xs, h1, rfl⟩ := Option.map_eq_some_iff.mp h
    obtain ⟨as, h2⟩ := main xs h1
    exact ⟨as, h2, fun q => by rw [nd n1] at q; cases q⟩
end
theorem val1 {xs : List V} {d : AV} {n : Nat} {N M : List Addr} {H : Hp} (r : RVs n N M H xs [d]) : ∃ v, xs = [v] ∧ RV n N M H v d := by
  cases r with
  | cons a b => cases b; exact ⟨_, rfl, a⟩
theorem val2 {xs : List V} {d e : AV} {n : Nat} {N M : List Addr} {H : Hp} (r : RVs n N M H xs [d, e]) : ∃ v w, xs = [v, w] ∧ RV n N M H v d ∧ RV n N M H w e := by
  cases r with
  | cons a b => cases b with
    | cons a2 b => cases b; exact ⟨_, _, rfl, a, a2⟩
/-! ### arithmetic -/
def gInt (C : Int → Int → Prop) (f : Int → Int → Int) : G2 := fun d e m P => match d, e with
  | .im (.int i), .im (.int j) => C i j ∧ P (.im (.int (f i j))) m
  | _, _ => False
section
variable {X : Cx} {k : Nat}
theorem oa_int {op : Operator} {C : Int → Int → Prop} {f : Int → Int → Int} (h : OpR X (binaryOp op) (rI C fun i j => .int (f i j))) : OA X (binaryOp op) (gInt C f) := by
  rintro pins s σ H x y v u Q I rx ry ⟨N, M, m, d, e, P, R, r1, r2, hg, q⟩
  unfold gInt at hg
  split at hg
  · rename_i i j
    cases r1; cases r2
    exact h pins s σ H _ _ v u Q I rx ry ⟨i, j, rfl, rfl, hg.1, q _ _ M H m .refl R (.int _) hg.2⟩
  · exact hg.elim
theorem oa_mul : OA X (binaryOp .Mult) (gInt CMul (· * ·)) := oa_int op_mul
theorem oa_mod : OA X (binaryOp .Mod) (gInt (fun _ j => j ≠ 0) Int.fmod) := oa_int op_modN
theorem oa_fdiv : OA X (binaryOp .FloorDiv) (gInt CDivN Int.fdiv) := oa_int op_fdivN
theorem oa_pow : OA X (binaryOp .Pow) (gInt CPow fun i j => i ^ j.toNat) := oa_int op_pow
/-- + -/
def gAdd : G2 := fun d e m P => match d, e with
  | .im (.int i), .im (.int j) => P (.im (.int (i + j))) m
  | .im (.bool b), .im (.int j) => P (.im (.int ((if b = true then 1 else 0) + j))) m
  | .im (.str x), .im (.str y) => x.length + y.length ≤ sizeLine ∧ P (.im (.str (x ++ y))) m
  | .im (.tuple xs), .im (.tuple ys) => xs.length + ys.length ≤ 100000 ∧ P (.im (.tuple (xs ++ ys))) m
  | d, e => match asL d m, asL e m with
    | some xs, some ys => xs.length + ys.length ≤ sizeLine ∧ P (.wl (xs ++ ys)) m
    | _, _ => False
/-- a new list -/
theorem new_wl {N M : List Addr} {H : Hp} {m : Store} {us : List V} {xs : List PyData} {p : Addr} (R : Rel N M H m) (hp : H p = none) (r : Reps (M ++ N) H us xs) :
    Ext M H M (upd H p (.lst us)) ∧ Rel N M (upd H p (.lst us)) m ∧ RV M.length N M (upd H p (.lst us)) (.ref p) (.wl xs) :=
  ⟨.alloc hp, R.alloc hp, p, us, rfl, R.live.fresh hp, upd_same, r.keep (Kp.new hp)⟩
theorem oa_add : OA X (binaryOp .Add) gAdd := by
  rintro pins s σ H x y v u Q I rx ry ⟨N, M, m, d, e, P, R, r1, r2, hg, q⟩
  unfold gAdd at hg
  split at hg
  · rename_i i j
    cases r1; cases r2
    exact op_add pins s σ H _ _ v u Q I rx ry ⟨i, j, rfl, rfl, q _ _ M H m .refl R (.int _) hg⟩
  · rename_i b j
    cases r1; cases r2
    exact op_addN pins s σ H _ _ v u Q I rx ry ⟨_, j, .inr ⟨b, rfl, rfl⟩, rfl, q _ _ M H m .refl R (.int _) hg⟩
  · rename_i a b
    cases r1; cases r2
    exact op_add_str pins s σ H _ _ v u Q I rx ry ⟨a, b, rfl, rfl, hg.1, q _ _ M H m .refl R (.str _) hg.2⟩
  · refine op_catA pins s σ H _ _ v u Q I rx ry (cat_v R.live r1 r2 hg.1 fun z H' kp r => ?_)
    obtain ⟨R', x'⟩ := R.kept fun b o e => kp b o List.not_mem_nil e
    exact q z _ M H' m x' R' (.of r) hg.2
  · split at hg
    · rename_i xs ys e1 e2
      obtain ⟨a, us, rfl, h1, z1⟩ := asL_of R r1 e1
      obtain ⟨b, ws, rfl, h2, z2⟩ := asL_of R r2 e2
      refine op_cat pins s σ H _ _ v u Q I rx ry ⟨a, b, us, ws, rfl, rfl, h1, h2, by rw [z1.length, z2.length]; exact hg.1, fun p hp => ?_⟩
      obtain ⟨x', R', r'⟩ := new_wl R hp (z1.append z2)
      exact q _ _ M _ m x' R' r' hg.2
    · exact hg.elim
/-- - -/
def gMinus : G2 := fun d e m P => match d, e with
  | .im (.int i), .im (.int j) => P (.im (.int (i - j))) m
  | .im (.bool b), .im (.int j) => P (.im (.int ((if b = true then 1 else 0) - j))) m
  | _, _ => False
theorem oa_sub : OA X (binaryOp .Sub) gMinus := by
  rintro pins s σ H x y v u Q I rx ry ⟨N, M, m, d, e, P, R, r1, r2, hg, q⟩
  unfold gMinus at hg
  split at hg
  · rename_i i j
    cases r1; cases r2
    exact op_sub pins s σ H _ _ v u Q I rx ry ⟨i, j, rfl, rfl, q _ _ M H m .refl R (.int _) hg⟩
  · rename_i b j
    cases r1; cases r2
    exact op_subN pins s σ H _ _ v u Q I rx ry ⟨_, j, .inr ⟨b, rfl, rfl⟩, rfl, q _ _ M H m .refl R (.int _) hg⟩
  · exact hg.elim
def gNeg : G1 := fun d m P => match d with
  | .im (.int i) => P (.im (.int (-i))) m
  | _ => False
theorem ua_neg : UA X (unaryOp .USub) gNeg := by
  rintro pins s σ H x v Q I rx ⟨N, M, m, d, P, R, r1, hg, q⟩
  unfold gNeg at hg
  split at hg
  · rename_i i
    cases r1
    exact un_neg pins s σ H _ v Q I rx ⟨i, rfl, q _ _ M H m .refl R (.int _) hg⟩
  · exact hg.elim
/-! ### comparisons -/
/-- data that can be compared by their looks -/
abbrev Look (x : PyData) : Prop := x.canLay0 = true ∧ x.depth ≤ 60
def gEqv (f : Bool → Bool) : G2 := fun d e m P => match d, e with
  | .im (.int i), .im (.int j) => P (.im (.bool (f (decide (i = j))))) m
  | .im (.str x), .im (.str y) => P (.im (.bool (f (decide (x = y))))) m
  | .im (.bool x), .im (.bool y) => P (.im (.bool (f (decide (x = y))))) m
  | d, e => (∃ xs, asL d m = some xs ∧ e = .im (.list []) ∧ P (.im (.bool (f xs.isEmpty))) m) ∨
    (match dat d m, dat e m with
      | some x, some y => Look x ∧ Look y ∧ P (.im (.bool (f (PyData.eqv x y)))) m
      | _, _ => False)
theorem oa_eq (hr : Room k X.A) : OA X (compareOp .Eq) (gEqv id) := by
  rintro pins s σ H x y v u Q I rx ry ⟨N, M, m, d, e, P, R, r1, r2, hg, q⟩
  have un := hr.un
  unfold gEqv at hg
  split at hg
  · cases r1; cases r2
    exact op_eq pins s σ H _ _ v u Q I rx ry ⟨rfl, q _ _ M H m .refl R (.bl _) (by simpa using hg)⟩
  · cases r1; cases r2
    exact op_eq pins s σ H _ _ v u Q I rx ry ⟨rfl, q _ _ M H m .refl R (.bl _) (by simpa using hg)⟩
  · cases r1; cases r2
    exact op_eq pins s σ H _ _ v u Q I rx ry ⟨rfl, q _ _ M H m .refl R (.bl _) (by simpa using hg)⟩
  · rcases hg with ⟨xs, e1, rfl, hg⟩ | hg
    · obtain ⟨a, us, rfl, h1, z1⟩ := asL_of R r1 e1
      cases r2 with
      | lst n ne e2 z2 =>
        cases z2
        cases rx; cases ry
        obtain ⟨its, w1, p1, _⟩ := I.list (.inl (.inl h1))
        obtain ⟨its2, w2, p2, _⟩ := I.list (.inl (.inl e2))
        cases w2
        cases z1 with
        | nil => cases w1; exact SeqAt.RcAt.lists (e := fun _ => true) p1.isList p2.isList rfl (by omega) (fun j h1 _ => absurd h1 (by simp)) _ _ _ _ ⟨.bl _, H, I, rfl, q _ (.im (.bool _)) M H m .refl R (.bl _) hg⟩
        | cons _ _ => cases w1; exact SeqAt.RcAt.lists_lengths p1.isList p2.isList (by simp) (by omega) _ _ _ _ ⟨.bl _, H, I, rfl, q _ (.im (.bool _)) M H m .refl R (.bl _) hg⟩
    · split at hg
      · rename_i x y e1 e2
        obtain ⟨l1, l2, hg⟩ := hg
        obtain ⟨as, z1, _⟩ := dat_of I R r1 e1 rx fun _ => PyData.hasDict_of_canLay _ l1.1
        obtain ⟨bs, z2, _⟩ := dat_of I R r2 e2 ry fun _ => PyData.hasDict_of_canLay _ l2.1
        exact SeqAt.compareEq_reads z1 z2 l1.1 l2.1 (by have := l1.2; omega) ⟨.bl _, H, I, rfl, q _ (.im (.bool _)) M H m .refl R (.bl _) hg⟩
      · exact hg.elim
end
end Ab
end

section
set_option maxRecDepth 100000
set_option maxHeartbeats 4000000
/-! Readings over data: further operators, subscripts, slices. -/
namespace Ab
open PySem PySem.Spec PyProof.Rows L2 Gd
section
variable {X : Cx} {k : Nat}
theorem oa_ne (hr : Room k X.A) : OA X (compareOp .NotEq) (gEqv not) := by
  rintro pins s σ H x y v u Q I rx ry ⟨N, M, m, d, e, P, R, r1, r2, hg, q⟩
  have un := hr.un
  unfold gEqv at hg
  split at hg
  · cases r1; cases r2
    exact op_ne pins s σ H _ _ v u Q I rx ry ⟨rfl, q _ _ M H m .refl R (.bl _) (by simpa using hg)⟩
  · cases r1; cases r2
    exact op_ne pins s σ H _ _ v u Q I rx ry ⟨rfl, q _ _ M H m .refl R (.bl _) (by simpa using hg)⟩
  · cases r1; cases r2
    exact op_ne pins s σ H _ _ v u Q I rx ry ⟨rfl, q _ _ M H m .refl R (.bl _) (by simpa using hg)⟩
  · rcases hg with ⟨xs, e1, rfl, hg⟩ | hg
    · obtain ⟨a, us, rfl, h1, z1⟩ := asL_of R r1 e1
      cases r2 with
      | lst n ne e2 z2 =>
        cases z2
        exact op_neLE hr pins s σ H _ _ v u Q I rx ry ⟨a, _, us, rfl, rfl, h1, e2, q _ _ M H m .refl R (.bl _) (by rw [emp_reps z1]; exact hg)⟩
    · split at hg
      · rename_i x y e1 e2
        obtain ⟨l1, l2, hg⟩ := hg
        obtain ⟨as, z1, _⟩ := dat_of I R r1 e1 rx fun _ => PyData.hasDict_of_canLay _ l1.1
        obtain ⟨bs, z2, _⟩ := dat_of I R r2 e2 ry fun _ => PyData.hasDict_of_canLay _ l2.1
        exact SeqAt.compareNe_reads z1 z2 l1.1 l2.1 (by have := l1.2; omega) ⟨.bl _, H, I, rfl, q _ (.im (.bool _)) M H m .refl R (.bl _) hg⟩
      · exact hg.elim
/-- <, <=, >, >= of numbers and texts -/
def gOrd (f : Int → Int → Bool) (g : List Nat → List Nat → Bool) : G2 := fun d e m P => match d, e with
  | .im (.int i), .im (.int j) => P (.im (.bool (f i j))) m
  | .im (.str x), .im (.str y) => P (.im (.bool (g x.cps.toList y.cps.toList))) m
  | _, _ => False
theorem oa_ord {op : CmpOp} {f : Int → Int → Bool} {g : List Nat → List Nat → Bool} (h1 : OpR X (compareOp op) (rI0 fun i j => .bl (f i j))) (h2 : OpR X (compareOp op) (fun x y H Q => ∃ i j, x = .str i ∧ y = .str j ∧ Q (.bl (g i.cps.toList j.cps.toList)) H)) :
    OA X (compareOp op) (gOrd f g) := by
  rintro pins s σ H x y v u Q I rx ry ⟨N, M, m, d, e, P, R, r1, r2, hg, q⟩
  unfold gOrd at hg
  split at hg
  · cases r1; cases r2
    exact h1 pins s σ H _ _ v u Q I rx ry ⟨_, _, rfl, rfl, q _ _ M H m .refl R (.bl _) hg⟩
  · cases r1; cases r2
    exact h2 pins s σ H _ _ v u Q I rx ry ⟨_, _, rfl, rfl, q _ _ M H m .refl R (.bl _) hg⟩
  · exact hg.elim
abbrev gLe : G2 := gOrd (fun i j => decide (i ≤ j)) (fun x y => !decide (y < x))
abbrev gGt : G2 := gOrd (fun i j => decide (j < i)) (fun x y => decide (y < x))
abbrev gGe : G2 := gOrd (fun i j => decide (j ≤ i)) (fun x y => !decide (x < y))
theorem oa_le : OA X (compareOp .LtE) gLe := oa_ord op_le op_le_str
theorem oa_gt : OA X (compareOp .Gt) gGt := oa_ord op_gt op_gt_str
theorem oa_ge : OA X (compareOp .GtE) gGe := oa_ord op_ge op_ge_str
/-- < also of data of one shape -/
def gLt : G2 := fun d e m P => match d, e with
  | .im (.int i), .im (.int j) => P (.im (.bool (decide (i < j)))) m
  | .im (.str x), .im (.str y) => P (.im (.bool (decide (x.cps.toList < y.cps.toList)))) m
  | .im d, .im e => W.alike d e = true ∧ d ≠ .none ∧ d.depth ≤ 100 ∧ P (.im (.bool (W.dataLt d e))) m
  | _, _ => False
theorem oa_lt (hr : Room k X.A) : OA X (compareOp .Lt) gLt := by
  rintro pins s σ H x y v u Q I rx ry ⟨N, M, m, d, e, P, R, r1, r2, hg, q⟩
  unfold gLt at hg
  split at hg
  · cases r1; cases r2
    exact op_lt pins s σ H _ _ v u Q I rx ry ⟨_, _, rfl, rfl, q _ _ M H m .refl R (.bl _) hg⟩
  · cases r1; cases r2
    exact op_lt_str pins s σ H _ _ v u Q I rx ry ⟨_, _, rfl, rfl, q _ _ M H m .refl R (.bl _) hg⟩
  · obtain ⟨a, b, c, hg⟩ := hg
    exact op_ltD hr pins s σ H _ _ v u Q I rx ry ⟨M ++ N, _, _, r1, r2, a, b, c, q _ (.im (.bool _)) M H m .refl R (.bl _) hg⟩
  · exact hg.elim
/-! ### is -/
def isNon : AV → Bool
  | .im .none => true
  | _ => false
theorem non_of {N M : List Addr} {H : Hp} {n : Nat} {v : V} {d : AV} (r : RV n N M H v d) : decide (v = .non) = Ab.isNon d := by
  cases d with
  | im d =>
    have r : Rep (M ++ N) H v d := r
    cases r <;> simp [Ab.isNon]
  | mu i => obtain ⟨_, a, _, rfl⟩ := r; simp [Ab.isNon]
  | pr x y => obtain ⟨a, _, _, rfl, _⟩ := r; simp [Ab.isNon]
  | wl xs => obtain ⟨a, _, rfl, _⟩ := r; simp [Ab.isNon]
def gIs (f : Bool → Bool) : G2 := fun d e m P => match e with
  | .im .none => P (.im (.bool (f (Ab.isNon d)))) m
  | .im (.bool b) => (match d with | .im (.bool a) => P (.im (.bool (f (decide (a = b))))) m | _ => False)
  | _ => False
theorem oa_is : OA X (compareOp .Is) (gIs id) := by
  rintro pins s σ H x y v u Q I rx ry ⟨N, M, m, d, e, P, R, r1, r2, hg, q⟩
  unfold gIs at hg
  split at hg
  · cases r2
    exact op_isN pins s σ H _ _ v u Q I rx ry ⟨rfl, q _ (.im (.bool _)) M H m .refl R (.bl _) (by rw [non_of r1]; exact hg)⟩
  · split at hg
    · cases r1; cases r2
      exact op_isBl pins s σ H _ _ v u Q I rx ry ⟨_, _, rfl, rfl, q _ _ M H m .refl R (.bl _) hg⟩
    · exact hg.elim
  · exact hg.elim
theorem oa_isnot : OA X (compareOp .IsNot) (gIs not) := by
  rintro pins s σ H x y v u Q I rx ry ⟨N, M, m, d, e, P, R, r1, r2, hg, q⟩
  unfold gIs at hg
  split at hg
  · cases r2
    exact op_notN pins s σ H _ _ v u Q I rx ry ⟨rfl, q _ (.im (.bool _)) M H m .refl R (.bl _) (by rw [non_of r1]; exact hg)⟩
  · split at hg
    · cases r1; cases r2
      exact op_notBl pins s σ H _ _ v u Q I rx ry ⟨_, _, rfl, rfl, q _ _ M H m .refl R (.bl _) hg⟩
    · exact hg.elim
  · exact hg.elim
/-! ### in -/
def keyA : PyData → Option Key
  | .int i => some (.inl i)
  | .str x => some (.inr x)
  | _ => none
def keysA : List PyData → Option (List Key)
  | [] => some []
  | x :: r => (keyA x).bind fun k => (keysA r).map (k :: ·)
def lookA {κ : Type} [DecidableEq κ] {α : Type} (kvs : List (κ × α)) (k : κ) : Option α := (kvs.find? fun kv => decide (kv.1 = k)).map (·.2)
theorem key_rep {M : List Addr} {H : Hp} {v : V} {d : PyData} {k : Key} (r : Rep M H v d) (h : keyA d = some k) : v = kV k := by
  cases d <;> cases h <;> cases r <;> rfl
theorem keys_rep {M : List Addr} {H : Hp} : ∀ {vs : List V} {ds : List PyData} {ks : List Key}, Reps M H vs ds → keysA ds = some ks → vs = ks.map kV
  | _, [], _, .nil, h => by cases h; rfl
  | _, x :: r, _, .cons r1 r2, h => by
    unfold keysA at h
    obtain ⟨k, h1, h2⟩ := Option.bind_eq_some_iff.mp h
    obtain ⟨ks, h3, rfl⟩ := Option.map_eq_some_iff.mp h2
    rw [key_rep r1 h1, keys_rep r2 h3]; rfl
theorem look_of {κ : Type} [DecidableEq κ] {n : Nat} {N M : List Addr} {H : Hp} (k : κ) : ∀ {us : List (κ × V)} {kvs : List (κ × AV)}, RKs n N M H us kvs → (∃ v d, valV us k = some v ∧ lookA kvs k = some d ∧ RV n N M H v d) ∨ (valV us k = none ∧ lookA kvs k = none)
  | _, _, .nil => .inr ⟨rfl, rfl⟩
  | _, _, .cons (a := p) (b := q) r1 r2 => by
    by_cases z : q.1 = k
    · exact .inl ⟨p.2, q.2, by simp [valV, List.find?_cons, r1.1, z], by simp [lookA, List.find?_cons, z], r1.2⟩
    · rcases look_of k r2 with ⟨v, d, h1, h2, h3⟩ | ⟨h1, h2⟩
      · exact .inl ⟨v, d, by simpa [valV, List.find?_cons, r1.1, z] using h1, by simpa [lookA, List.find?_cons, z] using h2, h3⟩
      · exact .inr ⟨by simpa [valV, List.find?_cons, r1.1, z] using h1, by simpa [lookA, List.find?_cons, z] using h2⟩
/-- what a dict holds at a key -/
def atD (c : Cell) (e : AV) : Option (Option AV) := match c, e with
  | .dk kvs, .im x => (keyA x).map fun k => lookA kvs k
  | .fz _ _ kvs, .im x => (keyA x).map fun k => lookA kvs k
  | .dt kvs, .im (.tuple xs) => (keysA xs).map fun k => lookA kvs k
  | _, _ => none
theorem atD_of {N M : List Addr} {H : Hp} {n : Nat} {a : Addr} {c : Cell} {w : V} {e : AV} {o : Option AV} (rc : RC n N M H a c) (r : RV M.length N M H w e) (h : atD c e = some o) :
    ∃ ov, DGet H a w ov ∧ ((ov = none ∧ o = none) ∨ ∃ v d, ov = some v ∧ o = some d ∧ RV n N M H v d) := by
  unfold atD at h
  split at h
  · rename_i kvs x
    obtain ⟨k, h1, rfl⟩ := Option.map_eq_some_iff.mp h
    obtain ⟨us, h2, h3⟩ := rc
    refine ⟨valV us k, .inl ⟨us, k, .inl h2, key_rep r h1, rfl⟩, ?_⟩
    rcases look_of k h3 with ⟨v, d, a1, a2, a3⟩ | ⟨a1, a2⟩
    · exact .inr ⟨v, d, a1, a2, a3⟩
    · exact .inl ⟨a1, a2⟩
  · rename_i o1 us kvs x
    obtain ⟨k, h1, rfl⟩ := Option.map_eq_some_iff.mp h
    obtain ⟨h2, h3⟩ := rc
    refine ⟨valV us k, .inl ⟨us, k, .inr ⟨o1, h2⟩, key_rep r h1, rfl⟩, ?_⟩
    rcases look_of k h3 with ⟨v, d, a1, a2, a3⟩ | ⟨a1, a2⟩
    · exact .inr ⟨v, d, a1, a2, a3⟩
    · exact .inl ⟨a1, a2⟩
  · rename_i kvs xs
    obtain ⟨k, h1, rfl⟩ := Option.map_eq_some_iff.mp h
    obtain ⟨us, h2, h3⟩ := rc
    cases r with
    | tup n1 e1 z =>
      refine ⟨valV us k, .inr ⟨us, k, _, .inl h2, rfl, by rw [← keys_rep z h1]; exact e1, rfl⟩, ?_⟩
      rcases look_of k h3 with ⟨v, d, a1, a2, a3⟩ | ⟨a1, a2⟩
      · exact .inr ⟨v, d, a1, a2, a3⟩
      · exact .inl ⟨a1, a2⟩
  · cases h
def asQ (d : AV) (m : Store) : Option (List PyData) := match asT d with
  | some xs => some xs
  | none => asL d m
/-- any data in a tuple of texts -/
def gInS (f : Bool → Bool) : G2 := fun d e m P => match d with
  | .im x => ∃ ss : List Str, e = .im (.tuple (ss.map .str)) ∧ P (.im (.bool (f (inD x ss)))) m
  | _ => False
/-- x in c: a sign in a text; data in a list or a tuple; a key in a dict -/
def gIn (f : Bool → Bool) : G2 := fun d e m P => match e with
  | .im (.str z) => (match d with | .im (.str x) => (match x.cps.toList with | [c] => P (.im (.bool (f (decide (c ∈ z.cps.toList))))) m | _ => False) | _ => False)
  | e => match asQ e m with
    | some xs => (match d with
      | .im x => Look x ∧ PyData.canLayAll0 xs = true ∧ P (.im (.bool (f (xs.any fun y => PyData.eqv y x)))) m
      | _ => False)
    | none => (match e with
      | .mu i => (match m[i]? with
        | some c => (match atD c d with | some o => P (.im (.bool (f o.isSome))) m | none => False)
        | none => False)
      | _ => False)
theorem ltInT {pins : List (Addr × Obj)} {s : Shared} {σ : L2.St} {H : Hp} {M : List Addr} {x : V} {v : Value} {a : Addr} {d : PyData} {ss : List Str} (I : Inv X pins σ H s) (hr : Room k X.A) (rp : Rep M H x d) (rx : RelV x v) (ha : H a = some (.tup (ss.map V.str))) :
    ∃ (its : List Value) (e : Value → Bool), IsTup s.heap a its.toArray ∧ its.any e = inD d ss ∧ ∀ y, y ∈ its.toArray → SeqAt.EqAt X.A.in1 s y v (e y) := by
  obtain ⟨_, its, rv, ht⟩ := (show ObjOk X.prog X.w H s.heap a (.tup (ss.map V.str)) from I.hok _ _ ha)
  have un := hr.un
  have un1 : X.A.in1.units = X.A.units + 1 := rfl
  have no : (its.any fun _ => false) = false := by simp
  have txt : ∀ y ∈ its.toArray, ∃ z t, y = .str z t := fun y hy => let ⟨z, _, t, e⟩ := vals_strs rv y (by simpa using hy); ⟨z, t, e⟩
  cases rp with
  | non => cases rx; exact ⟨its, fun _ => false, ht, no, fun y hy => by obtain ⟨z, t, rfl⟩ := txt y hy; exact SeqAt.EqAt.str_none z t⟩
  | bl b => cases rx; exact ⟨its, fun _ => false, ht, no, fun y hy => by obtain ⟨z, t, rfl⟩ := txt y hy; exact SeqAt.EqAt.str_bool z t b⟩
  | int i => obtain ⟨t2, rfl⟩ := rx; exact ⟨its, fun _ => false, ht, no, fun y hy => by obtain ⟨z, t, rfl⟩ := txt y hy; exact SeqAt.EqAt.str_int z t i t2⟩
  | str x =>
    obtain ⟨t2, rfl⟩ := rx
    refine ⟨its, fun u => match u with | .str z _ => decide (z = x) | _ => false, ht, vals_any rv, fun y hy => ?_⟩
    obtain ⟨z, t, rfl⟩ := txt y hy
    have e := SeqAt.EqAt.str_str (A := X.A.in1) (s := s) z t x t2
    have e2 : (z == x) = decide (z = x) := by by_cases c : z = x <;> simp [c]
    rw [e2] at e
    exact e
  | tup n e z =>
    cases rx
    obtain ⟨_, i2, _, h2⟩ := (show ObjOk X.prog X.w H s.heap _ (.tup _) from I.hok _ _ e)
    exact ⟨its, fun _ => false, ht, no, fun y hy => by obtain ⟨z, t, rfl⟩ := txt y hy; exact SeqAt.EqAt.str_tuple z t h2 (by omega)⟩
  | lst n ne e z =>
    cases rx
    obtain ⟨_, i2, m, _, h2⟩ := (show ObjOk X.prog X.w H s.heap _ (.lst _) from I.hok _ _ e)
    exact ⟨its, fun _ => false, ht, no, fun y hy => by obtain ⟨z, t, rfl⟩ := txt y hy; exact SeqAt.EqAt.str_list z t ⟨_, h2, rfl, _, rfl⟩ (by omega)⟩
  | emp n e =>
    cases rx
    obtain ⟨_, hd, vs, kv, o, es, ep, h1, ex, h2, _⟩ := (show ObjOk X.prog X.w H s.heap _ (.dK []) from I.hok _ _ e)
    obtain ⟨oc, od, dt, sl⟩ := o
    obtain ⟨e1, e2, e3⟩ := ex
    simp only at e1 e2 e3 h2
    subst e1 e2 e3 h2
    exact ⟨its, fun _ => false, ht, no, fun y hy => by obtain ⟨z, t, rfl⟩ := txt y hy; exact SeqAt.gd_str_dict (prog := X.prog) (w := X.w) z t h1 (by omega)⟩
theorem inQ {pins : List (Addr × Obj)} {s : Shared} {σ : L2.St} {H : Hp} {N M : List Addr} {m : Store} {y : V} {u : Value} {e : AV} {xs : List PyData} (I : Inv X pins σ H s) (R : Rel N M H m) (r : RV M.length N M H y e) (ry : RelV y u) (h : asQ e m = some xs) :
    (∃ as, Reads s.heap u (.list xs) as) ∨ ∃ as, Reads s.heap u (.tuple xs) as := by
  unfold asQ at h
  split at h
  · rename_i ys e1
    cases h
    obtain ⟨a, us, rfl, n, h1, z⟩ := asT_of r e1
    obtain ⟨as, h2, _⟩ := Gd.Rep.reads I (Rep.tup n h1 z) ry
    exact .inr ⟨as, h2⟩
  · obtain ⟨a, us, rfl, h1, z⟩ := asL_of R r h
    cases ry
    obtain ⟨_, its, n, rv, h2⟩ := (show ObjOk X.prog X.w H s.heap _ (.lst _) from I.hok _ _ h1)
    obtain ⟨as, z, _⟩ := Reps.reads I z rv
    exact .inl ⟨_, .list h2 rfl rfl z⟩
theorem oa_in (hr : Room k X.A) : OA X (compareOp .In) (gIn id) := by
  rintro pins s σ H x y v u Q I rx ry ⟨N, M, m, d, e, P, R, r1, r2, hg, q⟩
  have un := hr.un
  unfold gIn at hg
  split at hg
  · rename_i z
    split at hg
    · rename_i x
      split at hg
      · rename_i c e1
        have ex : x = ⟨#[c]⟩ := by
          cases x with
          | mk l => simp only at e1; rw [show l = #[c] from by rw [← Array.toList_inj, e1]]
        subst ex
        cases r1; cases r2
        exact op_in_sign pins s σ H _ _ v u Q I rx ry ⟨c, z, rfl, rfl, q _ _ M H m .refl R (.bl _) hg⟩
      · exact hg.elim
    · exact hg.elim
  · split at hg
    · rename_i xs eq
      split at hg
      · rename_i x
        obtain ⟨l1, l2, hg⟩ := hg
        obtain ⟨as, z1, _⟩ := Gd.Rep.reads I r1 rx
        have fin : EP X pins σ Q (.bool (xs.any fun y => PyData.eqv y x)) s := ⟨.bl _, H, I, rfl, q _ (.im (.bool _)) M H m .refl R (.bl _) hg⟩
        have dp : min (PyData.depthAll xs) x.depth ≤ 60 := Nat.le_trans (Nat.min_le_right _ _) l1.2
        rcases inQ I R r2 ry eq with ⟨bs, z2⟩ | ⟨bs, z2⟩
        · exact SeqAt.in_list_reads z2 z1 l2 l1.1 (by omega) fin
        · exact SeqAt.in_tuple_reads z2 z1 l2 l1.1 (by omega) fin
      · exact hg.elim
    · split at hg
      · rename_i i _ _
        split at hg
        · rename_i c ec
          split at hg
          · rename_i o eo
            obtain ⟨_, a, ha, rfl⟩ := r2
            obtain ⟨ov, dg, ho⟩ := atD_of (R.cell i a c ha ec) r1 eo
            cases ry
            have e : ov.isSome = o.isSome := by rcases ho with ⟨a, b⟩ | ⟨_, _, a, b, _⟩ <;> rw [a, b] <;> rfl
            exact d_in (by omega) I dg rx fun s3 I3 => ⟨.bl _, H, I3, rfl, q _ (.im (.bool _)) M H m .refl R (.bl _) (by rw [e]; exact hg)⟩
          · exact hg.elim
        · exact hg.elim
      · exact hg.elim
theorem oa_notin (hr : Room k X.A) : OA X (compareOp .NotIn) (gIn not) := by
  rintro pins s σ H x y v u Q I rx ry ⟨N, M, m, d, e, P, R, r1, r2, hg, q⟩
  have un := hr.un
  unfold gIn at hg
  split at hg
  · rename_i z
    split at hg
    · rename_i x
      split at hg
      · rename_i c e1
        have ex : x = ⟨#[c]⟩ := by
          cases x with
          | mk l => simp only at e1; rw [show l = #[c] from by rw [← Array.toList_inj, e1]]
        subst ex
        cases r1; cases r2
        exact op_notIn_sign pins s σ H _ _ v u Q I rx ry ⟨c, z, rfl, rfl, q _ _ M H m .refl R (.bl _) hg⟩
      · exact hg.elim
    · exact hg.elim
  · split at hg
    · rename_i xs eq
      split at hg
      · rename_i x
        obtain ⟨l1, l2, hg⟩ := hg
        obtain ⟨as, z1, _⟩ := Gd.Rep.reads I r1 rx
        have fin : EP X pins σ Q (.bool (!xs.any fun y => PyData.eqv y x)) s := ⟨.bl _, H, I, rfl, q _ (.im (.bool _)) M H m .refl R (.bl _) hg⟩
        have dp : min (PyData.depthAll xs) x.depth ≤ 60 := Nat.le_trans (Nat.min_le_right _ _) l1.2
        rcases inQ I R r2 ry eq with ⟨bs, z2⟩ | ⟨bs, z2⟩
        · exact SeqAt.notIn_list_reads z2 z1 l2 l1.1 (by omega) fin
        · exact SeqAt.notIn_tuple_reads z2 z1 l2 l1.1 (by omega) fin
      · exact hg.elim
    · split at hg
      · rename_i i _ _
        split at hg
        · rename_i c ec
          split at hg
          · rename_i o eo
            obtain ⟨_, a, ha, rfl⟩ := r2
            obtain ⟨ov, dg, ho⟩ := atD_of (R.cell i a c ha ec) r1 eo
            cases ry
            have e : ov.isSome = o.isSome := by rcases ho with ⟨a, b⟩ | ⟨_, _, a, b, _⟩ <;> rw [a, b] <;> rfl
            exact d_notIn (by omega) I dg rx fun s3 I3 => ⟨.bl _, H, I3, rfl, q _ (.im (.bool _)) M H m .refl R (.bl _) (by rw [e]; exact hg)⟩
          · exact hg.elim
        · exact hg.elim
      · exact hg.elim
theorem oa_inS (hr : Room k X.A) : OA X (compareOp .In) (gInS id) := by
  rintro pins s σ H x y v u Q I rx ry ⟨N, M, m, d, e, P, R, r1, r2, hg, q⟩
  unfold gInS at hg
  split at hg
  · obtain ⟨ss, rfl, hg⟩ := hg
    cases r2 with
    | tup n e1 z =>
      have := z.strs
      subst this
      cases ry
      obtain ⟨its, e, ht, he, hy⟩ := ltInT I hr r1 rx e1
      exact SeqAt.in_tupleAt e ht hy ⟨.bl _, H, I, rfl, by rw [List.any_toArray, he]; exact q _ (.im (.bool _)) M H m .refl R (.bl _) hg⟩
  · exact hg.elim
theorem oa_notinS (hr : Room k X.A) : OA X (compareOp .NotIn) (gInS not) := by
  rintro pins s σ H x y v u Q I rx ry ⟨N, M, m, d, e, P, R, r1, r2, hg, q⟩
  unfold gInS at hg
  split at hg
  · obtain ⟨ss, rfl, hg⟩ := hg
    cases r2 with
    | tup n e1 z =>
      have := z.strs
      subst this
      cases ry
      obtain ⟨its, e, ht, he, hy⟩ := ltInT I hr r1 rx e1
      exact SeqAt.notIn_tupleAt e ht hy ⟨.bl _, H, I, rfl, by rw [List.any_toArray, he]; exact q _ (.im (.bool _)) M H m .refl R (.bl _) hg⟩
  · exact hg.elim
end
/-- items at written places -/
theorem at0 {α : Type} (x : α) (r : List α) : L2.atI (x :: r) 0 = some x := atI_nat (j := 0) rfl
theorem at1 {α : Type} (x y : α) (r : List α) : L2.atI (x :: y :: r) 1 = some y := atI_nat (j := 1) rfl
theorem at2 {α : Type} (x y z : α) (r : List α) : L2.atI (x :: y :: z :: r) 2 = some z := atI_nat (j := 2) rfl
end Ab
end

section
set_option maxRecDepth 100000
set_option maxHeartbeats 4000000
/-! Readings over data: subscripts, slices, stores, built-ins. -/
namespace Ab
open PySem PySem.Spec PyProof.Rows L2 Gd
theorem pair_ixs {α β : Type} {F : α → β → Prop} {us : List α} {xs : List β} {i : Int} {d : β} (r : Paired F us xs) (e : L2.atI xs i = some d) : ∃ v, L2.atI us i = some v ∧ F v d := by
  have l := pair_len r
  unfold L2.atI at e ⊢
  rw [l]
  obtain ⟨j, ej, e⟩ := Option.bind_eq_some_iff.mp e
  rw [ej]
  exact pair_at r e
section
variable {X : Cx} {k : Nat}
/-- a[b] -/
def gIx : G2 := fun d e m P => match d with
  | .im (.str z) => (match e with | .im (.int i) => (match L2.atI z.cps.toList i with | some c => z.length ≤ sizeLine ∧ P (.im (.str ⟨#[c]⟩)) m | none => False) | _ => False)
  | .pr x y => (match e with | .im (.int i) => (match L2.atI [x, y] i with | some d => P d m | none => False) | _ => False)
  | .mu j => (match m[j]? with
    | some (.lst xs) => (match e with | .im (.int i) => (match L2.atI xs i with | some d => P d m | none => False) | _ => False)
    | some c => (match atD c e with | some (some d) => P d m | _ => False)
    | none => False)
  | d => (match asQ d m with
    | some xs => (match e with | .im (.int i) => (match L2.atI xs i with | some x => P (.im x) m | none => False) | _ => False)
    | none => False)
theorem xa_ix (hr : Room k X.A) : IxR X (l2 gIx) := by
  rintro value slice pins s σ H x y v u Q I rx ry ⟨N, M, m, d, e, P, R, r1, r2, hg, q⟩ hs
  have un := hr.un
  unfold gIx at hg
  split at hg
  · rename_i z
    split at hg
    · rename_i i
      split at hg
      · rename_i c ec
        cases r1; cases r2
        exact ix_str value slice pins s σ H _ _ v u Q I rx ry ⟨z, i, c, rfl, rfl, hg.1, ec, q _ _ M H m .refl R (.str _) hg.2⟩ hs
      · exact hg.elim
    · exact hg.elim
  · rename_i x y
    split at hg
    · rename_i i
      split at hg
      · rename_i d ed
        obtain ⟨a, w1, w2, rfl, _, h3, s1, s2⟩ := r1
        cases r2
        obtain ⟨w, ew, rw'⟩ := pair_ixs (.cons s1 (.cons s2 .nil)) ed
        exact ix_tup value slice pins s σ H _ _ v u Q I rx ry ⟨a, _, i, w, rfl, rfl, .inl (.inl h3), ew, q _ _ M H m .refl R rw' hg⟩ hs
      · exact hg.elim
    · exact hg.elim
  · rename_i j
    obtain ⟨hj, a, ha, rfl⟩ := r1
    split at hg
    · rename_i xs ex
      split at hg
      · rename_i i
        split at hg
        · rename_i d ed
          cases r2
          obtain ⟨us, h3, h4⟩ := R.cell j a _ ha ex
          obtain ⟨w, ew, rw'⟩ := pair_ixs h4 ed
          exact ix_list value slice pins s σ H _ _ v u Q I rx ry ⟨a, _, i, w, rfl, rfl, .inl (.inl h3), ew, q _ _ M H m .refl R (rw'.up (by omega)) hg⟩ hs
        · exact hg.elim
      · exact hg.elim
    · rename_i c _ ex
      split at hg
      · rename_i d ed
        obtain ⟨ov, dg, ho⟩ := atD_of (R.cell j a c ha ex) r2 ed
        rcases ho with ⟨_, b⟩ | ⟨w, d', rfl, b, rw'⟩
        · cases b
        · cases b
          cases rx
          have ty := dict_typeIs I dg
          obtain ⟨u0, hu0⟩ : ∃ u0 : Value, True := ⟨.none, trivial⟩
          exact tail_any ty PySem.F.slot_dict_getitem.lookup (d_getItem (by omega) I dg ry fun w' s' I' rw2 => ⟨w, H, I', rw2, q w d M H m .refl R (rw'.up (by omega)) hg⟩) hs
      · exact hg.elim
    · exact hg.elim
  · split at hg
    · rename_i xs eq
      split at hg
      · rename_i i
        split at hg
        · rename_i x ex
          cases r2
          unfold asQ at eq
          split at eq
          · rename_i ys e1
            cases eq
            obtain ⟨a, us, rfl, n, h1, z⟩ := asT_of r1 e1
            obtain ⟨w, ew, rw'⟩ := z.atI ex
            exact ix_tup value slice pins s σ H _ _ v u Q I rx ry ⟨a, _, i, w, rfl, rfl, .inl (.inl h1), ew, q _ _ M H m .refl R (.of rw') hg⟩ hs
          · obtain ⟨a, us, rfl, h1, z⟩ := asL_of R r1 eq
            obtain ⟨w, ew, rw'⟩ := z.atI ex
            exact ix_list value slice pins s σ H _ _ v u Q I rx ry ⟨a, _, i, w, rfl, rfl, .inl (.inl h1), ew, q _ _ M H m .refl R (.of rw') hg⟩ hs
        · exact hg.elim
      · exact hg.elim
    · exact hg.elim
variable {B : Bk} {a b e : Expr} {ta tb te : TE} {wa wb we : WE} {pos : Pos}
theorem ae_ix (hr : Room k X.A) (ha : AE X B a ta wa) (hb : AE X B b tb wb) (hs : PlainIx b) : AE X B (.Subscript a b pos) (tOp (l2 gIx) ta tb) (wOp gIx wa wb) := ⟨pe_ix (xa_ix hr) ha.pe hb.pe hs, le_op ha.le hb.le⟩
/-! ### slices -/
def cutD {α : Type} (xs : List α) (lo hi : Option Int) : List α := (xs.drop (HT.sIx xs.length 0 lo)).take (HT.sIx xs.length xs.length hi - HT.sIx xs.length 0 lo)
abbrev WO := Slots → Store → (Option Int → Store → Prop) → Prop
def LO (B : Bk) (t : TO) (w : WO) : Prop := ∀ N M H σ ρ m P Q, B.Ok N M H → SR N M H σ ρ → Rel N M H m → w ρ m P → (∀ o M' H' m', Ext M H M' H' → Rel N M' H' m' → P o m' → Q o H') → t σ H Q
structure AO (X : Cx) (B : Bk) (e : Option Expr) (t : TO) (w : WO) : Prop where
  po : PO X e t
  lo : LO B t w
def wNo : WO := fun _ m P => P none m
def wSome (w : WE) : WO := fun ρ m P => w ρ m fun d m1 => match d with | .im (.int i) => P (some i) m1 | _ => False
theorem ao_none : AO X B none tNoPart wNo := ⟨po_none, fun N M H σ ρ m P Q x0 S R h q => q none M H m .refl R h⟩
theorem ao_some (h : AE X B e te we) : AO X B (some e) (tPart te) (wSome we) := ⟨po_some h.pe, fun N M H σ ρ m P Q x0 S R hw q => h.le N M H σ ρ m _ _ x0 S R hw fun v d M1 H1 m1 x1 R1 r1 h1 => by
  split at h1
  · cases r1; exact ⟨_, rfl, q _ M1 H1 m1 x1 R1 h1⟩
  · exact h1.elim⟩
def gSl (d : AV) (lo hi : Option Int) (m : Store) (P : AV → Store → Prop) : Prop := match d with
  | .im (.str z) => z.length ≤ sizeLine ∧ P (.im (.str (cutS z lo hi))) m
  | d => match asT d with
    | some xs => P (.im (.tuple (cutD xs lo hi))) m
    | none => match asL d m with
      | some xs => P (.wl (cutD xs lo hi)) m
      | none => False
def lSl : V → Option Int → Option Int → Hp → VK → Prop := fun x lo hi H Q => ∃ N M m d P, Rel N M H m ∧ RV M.length N M H x d ∧ gSl d lo hi m P ∧ ∀ v d' M' H' m', Ext M H M' H' → Rel N M' H' m' → RV M'.length N M' H' v d' → P d' m' → Q v H'
theorem SlR.imp {r r' : V → Option Int → Option Int → Hp → VK → Prop} (h : SlR X r) (i : ∀ x lo hi H Q, r' x lo hi H Q → r x lo hi H Q) : SlR X r' := fun pins s σ H x v vl vu lo hi sl Q I rx hs pl pu q => h pins s σ H x v vl vu lo hi sl Q I rx hs pl pu (i _ _ _ _ _ q)
theorem sl_data : SlR X lSl := by
  refine SlR.imp (SlR.or sl_str (SlR.or sl_tupA sl_list)) fun x lo hi H Q ⟨N, M, m, d, P, R, r1, hg, q⟩ => ?_
  unfold gSl at hg
  split at hg
  · rename_i z
    cases r1
    exact .inl ⟨z, rfl, hg.1, q _ _ M H m .refl R (.str _) hg.2⟩
  · split at hg
    · rename_i xs e1
      obtain ⟨a, us, rfl, n, h1, z⟩ := asT_of r1 e1
      have l := z.length
      refine .inr (.inl ⟨a, us, rfl, .inl (.inl h1), fun w => ?_, fun _ p hp => ?_⟩)
      · have e : cutD xs lo hi = xs := by unfold cutD; rw [← l, w.1, w.2]; simp [l]
        rw [e] at hg
        exact q _ (.im (.tuple xs)) M H m .refl R (Rep.tup n h1 z) hg
      · have e : Reps (M ++ N) H (cutV us lo hi) (cutD xs lo hi) := by unfold cutV cutD; rw [l]; exact (z.drop _).take _
        exact q _ (.im (.tuple _)) M _ m (.alloc hp) (R.alloc hp) (Rep.tup (R.live.fresh hp) upd_same (e.keep (Kp.new hp))) hg
    · split at hg
      · rename_i xs e1
        obtain ⟨a, us, rfl, h1, z⟩ := asL_of R r1 e1
        have l := z.length
        refine .inr (.inr ⟨a, us, rfl, .inl (.inl h1), fun p hp => ?_⟩)
        have e : Reps (M ++ N) H (cutV us lo hi) (cutD xs lo hi) := by unfold cutV cutD; rw [l]; exact (z.drop _).take _
        obtain ⟨x', R', r'⟩ := new_wl R hp e
        exact q _ _ M _ m x' R' r' hg
      · exact hg.elim
variable {lo hi : Option Expr} {tl th : TO} {wl wh : WO} {p2 : Pos}
def wSl (wa : WE) (wl wh : WO) : WE := fun ρ m P => wa ρ m fun d m1 => wl ρ m1 fun lo m2 => wh ρ m2 fun hi m3 => gSl d lo hi m3 P
theorem ae_slice (ha : AE X B a ta wa) (hl : AO X B lo tl wl) (hh : AO X B hi th wh) : AE X B (.Subscript a (.Slice lo hi none p2) pos) (tSl lSl ta tl th) (wSl wa wl wh) :=
  ⟨pe_slice sl_data ha.pe hl.po hh.po, fun N M H σ ρ m P Q x0 S R h q => ha.le N M H σ ρ m _ _ x0 S R h fun v d M1 H1 m1 x1 R1 r1 h1 => hl.lo N M1 H1 σ ρ m1 _ _ (x0.trans x1) (S.ext x1) R1 h1 fun l M2 H2 m2 x2 R2 h2 =>
    hh.lo N M2 H2 σ ρ m2 _ _ ((x0.trans x1).trans x2) ((S.ext x1).ext x2) R2 h2 fun u M3 H3 m3 x3 R3 h3 => ⟨N, M3, m3, d, P, R3, (r1.extL x2).extL x3, h3, fun z f M4 H4 m4 x4 R4 r4 h4 => q z f M4 H4 m4 (((x1.trans x2).trans x3).trans x4) R4 r4 h4⟩⟩
/-! ### o[i] = v -/
def putA {κ : Type} [DecidableEq κ] {α : Type} (kvs : List (κ × α)) (k : κ) (v : α) : List (κ × α) := if (kvs.any fun kv => decide (kv.1 = k)) = true then kvs.map (fun kv => if kv.1 = k then (kv.1, v) else kv) else kvs ++ [(k, v)]
theorem put_of {κ : Type} [DecidableEq κ] {n : Nat} {N M : List Addr} {H : Hp} {us : List (κ × V)} {kvs : List (κ × AV)} {v : V} {d : AV} (k : κ) (r : RKs n N M H us kvs) (rv : RV n N M H v d) : RKs n N M H (putK us k v) (putA kvs k d) := by
  have same : (us.any fun kv => decide (kv.1 = k)) = (kvs.any fun kv => decide (kv.1 = k)) := by
    induction r with
    | nil => rfl
    | cons a b ih => rw [List.any_cons, List.any_cons, ih, a.1]
  have mp : RKs n N M H (us.map fun kv => if kv.1 = k then (kv.1, v) else kv) (kvs.map fun kv => if kv.1 = k then (kv.1, d) else kv) := by
    clear same
    induction r with
    | nil => exact .nil
    | cons a b ih =>
      refine .cons ?_ ih
      dsimp only
      rw [a.1]
      split
      · exact ⟨rfl, rv⟩
      · exact ⟨a.1, a.2⟩
  unfold putK putA
  rw [same]
  split
  · exact mp
  · exact pair_app r (.cons ⟨rfl, rv⟩ .nil)
/-- o, i, v -/
def gSt (o i d : AV) (m : Store) (P : Store → Prop) : Prop := match o with
  | .mu j => d.und j = true ∧ (match m[j]? with
    | some (.lst xs) => (match i with | .im (.int z) => (match L2.ixN xs.length z with | some n => P (m.set j (.lst (xs.set n d))) | none => False) | _ => False)
    | some (.dk kvs) => kvs.length < sizeLine ∧ (match i with | .im x => (match keyA x with | some k => P (m.set j (.dk (putA kvs k d))) | none => False) | _ => False)
    | some (.dt kvs) => kvs.length < sizeLine ∧ (match i with | .im (.tuple xs) => (match keysA xs with | some k => P (m.set j (.dt (putA kvs k d))) | none => False) | _ => False)
    | _ => False)
  | _ => False
def lSt : V → V → V → Hp → (Hp → Prop) → Prop := fun o i v H Q => ∃ N M m a b d P, Rel N M H m ∧ RV M.length N M H o a ∧ RV M.length N M H i b ∧ RV M.length N M H v d ∧ gSt a b d m P ∧ ∀ M' H' m', Ext M H M' H' → Rel N M' H' m' → P m' → Q H'
theorem RV.und2 {N M : List Addr} {H : Hp} {k n : Nat} : ∀ {v : V} {d : AV}, d.und n = true → RV k N M H v d → RV n N M H v d
  | _, .im _, _, r => r
  | _, .mu i, h, ⟨_, a, h1, h2⟩ => ⟨by simpa [AV.und] using h, a, h1, h2⟩
  | _, .pr x y, h, ⟨a, u, w, h1, h2, h3, r1, r2⟩ => by
    have h : x.und n = true ∧ y.und n = true := by simpa [AV.und] using h
    exact ⟨a, u, w, h1, h2, h3, r1.und2 h.1, r2.und2 h.2⟩
  | _, .wl _, _, r => r
theorem RV.put {N M : List Addr} {H : Hp} {n : Nat} {a : Addr} {o : HO} (ha : a ∈ M) : ∀ {v : V} {d : AV}, RV n N M H v d → RV n N M (upd H a o) v d
  | _, .im _, r => Gd.Rep.keep (Kp.put (List.mem_append_left _ ha)) r
  | _, .mu _, r => r
  | _, .pr x y, ⟨b, u, w, h1, h2, h3, r1, r2⟩ => ⟨b, u, w, h1, h2, by rw [upd_ne (fun z : b = a => h2 (List.mem_append_left _ (by rw [z]; exact ha)))]; exact h3, r1.put ha, r2.put ha⟩
  | _, .wl _, ⟨b, us, h1, h2, h3, r⟩ => ⟨b, us, h1, h2, by rw [upd_ne (fun z : b = a => h2 (List.mem_append_left _ (by rw [z]; exact ha)))]; exact h3, Gd.Reps.keep (Kp.put (List.mem_append_left _ ha)) r⟩
theorem pair_set {α β : Type} {F : α → β → Prop} {x : α} {y : β} (h : F x y) : ∀ {xs : List α} {ys : List β} (i : Nat), Paired F xs ys → Paired F (xs.set i x) (ys.set i y)
  | _, _, _, .nil => .nil
  | _, _, 0, .cons _ t => .cons h t
  | _, _, i + 1, .cons r t => .cons r (pair_set h i t)
theorem set_data (hr : Room k X.A) : PSet X lSt := by
  rintro pins s σ H o i v ov iv u Q I ro ri rv ⟨N, M, m, a, b, d, P, R, r1, r2, r3, hg, q⟩
  have un := hr.un
  unfold gSt at hg
  split at hg
  · rename_i j
    obtain ⟨hd, hg⟩ := hg
    obtain ⟨hj, p, hp, rfl⟩ := r1
    have mp : p ∈ M := List.mem_of_getElem? hp
    have r3 := r3.und2 hd
    split at hg
    · rename_i xs ex
      split at hg
      · rename_i z
        split at hg
        · rename_i n en
          cases r2
          obtain ⟨us, h3, h4⟩ := R.cell j p _ hp ex
          obtain ⟨R', x'⟩ := R.put (c := .lst (xs.set n d)) (o := .lst (us.set n v)) hp ⟨_, upd_same, pair_imp (fun _ _ r => r.put mp) (pair_set r3 n h4)⟩
          exact set_list pins s σ H _ _ v ov iv u Q I ro ri rv ⟨p, us, z, n, rfl, rfl, h3, by rw [pair_len h4]; exact en, q M _ _ x' R' hg⟩
        · exact hg.elim
      · exact hg.elim
    · rename_i kvs ex
      obtain ⟨hl, hg⟩ := hg
      split at hg
      · rename_i x
        split at hg
        · rename_i k ek
          obtain ⟨us, h3, h4⟩ := R.cell j p _ hp ex
          cases ro
          obtain ⟨R', x'⟩ := R.put (c := .dk (putA kvs k d)) (o := .dK (putK us k v)) hp ⟨_, upd_same, pair_imp (fun _ _ r => ⟨r.1, r.2.put mp⟩) (put_of k h4 r3)⟩
          exact d_setItem (by omega) I (.inl ⟨us, k, h3, key_rep r2 ek, by rw [pair_len h4]; exact hl, rfl⟩) ri rv fun s' I' => ⟨_, I', q M _ _ x' R' hg⟩
        · exact hg.elim
      · exact hg.elim
    · rename_i kvs ex
      obtain ⟨hl, hg⟩ := hg
      split at hg
      · rename_i xs
        split at hg
        · rename_i k ek
          obtain ⟨us, h3, h4⟩ := R.cell j p _ hp ex
          cases ro
          cases r2 with
          | tup n1 e1 z =>
            obtain ⟨R', x'⟩ := R.put (c := .dt (putA kvs k d)) (o := .dT (putK us k v)) hp ⟨_, upd_same, pair_imp (fun _ _ r => ⟨r.1, r.2.put mp⟩) (put_of k h4 r3)⟩
            exact d_setItem (by omega) I (.inr ⟨us, k, _, h3, rfl, by rw [← keys_rep z ek]; exact e1, by rw [pair_len h4]; exact hl, rfl⟩) ri rv fun s' I' => ⟨_, I', q M _ _ x' R' hg⟩
        · exact hg.elim
      · exact hg.elim
    · exact hg.elim
  · exact hg.elim
def wgSub (wo wi : WE) : WG := fun d ρ m P => wo ρ m fun o m1 => wi ρ m1 fun i m2 => gSt o i d m2 fun m3 => P ρ m3
theorem g_sub {o i : Expr} {to ti : TE} {wo wi : WE} (hr : Room k X.A) (ho : AE X B o to wo) (hi : AE X B i ti wi)
    (ha : ∀ v, assign (.Subscript o i pos) X.env v = (do
      let ov ← holding [v] (eval o X.env)
      let iv ← holding [v, ov] (eval i X.env)
      standAt pos
      holding [v, ov, iv] (setItem ov iv v)
      release [v, ov, iv] []) := by intro _; rfl) : AG X B (.Subscript o i pos) (gSub to ti lSt) (wgSub wo wi) :=
  ⟨pg_sub ho.pe hi.pe (set_data hr) ha, fun N M H σ ρ m v d P Q x0 S R r h q => ho.le N M H σ ρ m _ _ x0 S R h fun ov o M1 H1 m1 x1 R1 r1 h1 => hi.le N M1 H1 σ ρ m1 _ _ (x0.trans x1) (S.ext x1) R1 h1 fun iv i M2 H2 m2 x2 R2 r2 h2 =>
    ⟨N, M2, m2, o, i, d, _, R2, r1.extL x2, r2, (r.extL x1).extL x2, h2, fun M3 H3 m3 x3 R3 h3 => q M3 H3 σ ρ m3 ((x1.trans x2).trans x3) (((S.ext x1).ext x2).ext x3) R3 h3⟩⟩
end
end Ab
end

section
set_option maxRecDepth 100000
set_option maxHeartbeats 4000000
/-! Readings over data: built-in functions and methods. -/
namespace Ab
open PySem PySem.Spec PyProof.Rows L2 Gd
section
variable {X : Cx} {k : Nat}
/-- len(x) -/
def gLen : GL := fun ds m P => match ds with
  | [.im (.str z)] => z.length ≤ sizeLine ∧ P (.im (.int z.length)) m
  | [.pr _ _] => P (.im (.int 2)) m
  | [.mu j] => (match m[j]? with
    | some (.lst xs) => P (.im (.int xs.length)) m
    | some (.dk kvs) => P (.im (.int kvs.length)) m
    | _ => False)
  | [d] => (match asQ d m with | some xs => P (.im (.int xs.length)) m | none => False)
  | _ => False
theorem ca_len : CA X (.builtin "len") gLen := by
  rintro pins s σ H vs us Q I r ⟨N, M, m, ds, P, R, r1, hg, q⟩
  unfold gLen at hg
  split at hg
  · obtain ⟨v, rfl, rv⟩ := val1 r1
    cases rv
    exact call_len pins s σ H _ us Q I r ⟨_, _, rfl, ⟨hg.1, rfl⟩, q _ _ M H m .refl R (.int _) hg.2⟩
  · obtain ⟨v, rfl, a, u, w, rfl, _, h3, _⟩ := val1 r1
    exact call_len pins s σ H _ us Q I r ⟨_, _, rfl, .inr ⟨_, .inl (.inl h3), rfl⟩, q _ _ M H m .refl R (.int _) hg⟩
  · rename_i j
    obtain ⟨v, rfl, _, a, ha, rfl⟩ := val1 r1
    split at hg
    · rename_i xs ex
      obtain ⟨us', h3, h4⟩ := R.cell j a _ ha ex
      exact call_len pins s σ H _ us Q I r ⟨_, _, rfl, .inl ⟨_, .inl (.inl h3), rfl⟩, q _ _ M H m .refl R (.int _) (by rw [pair_len h4]; exact hg)⟩
    · rename_i xs ex
      obtain ⟨us', h3, h4⟩ := R.cell j a _ ha ex
      exact call_lenD pins s σ H _ us Q I r ⟨_, _, rfl, h3, q _ _ M H m .refl R (.int _) (by rw [pair_len h4]; exact hg)⟩
    · exact hg.elim
  · rename_i d _ _ _
    obtain ⟨v, rfl, rv⟩ := val1 r1
    split at hg
    · rename_i xs eq
      unfold asQ at eq
      split at eq
      · rename_i ys e1
        cases eq
        obtain ⟨a, us', rfl, n, h1, z⟩ := asT_of rv e1
        exact call_len pins s σ H _ us Q I r ⟨_, _, rfl, .inr ⟨_, .inl (.inl h1), rfl⟩, q _ _ M H m .refl R (.int _) (by rw [z.length]; exact hg)⟩
      · obtain ⟨a, us', rfl, h1, z⟩ := asL_of R rv eq
        exact call_len pins s σ H _ us Q I r ⟨_, _, rfl, .inl ⟨_, .inl (.inl h1), rfl⟩, q _ _ M H m .refl R (.int _) (by rw [z.length]; exact hg)⟩
    · exact hg.elim
  · exact hg.elim
/-- abs(i) -/
def gAbs : GL := fun ds m P => match ds with
  | [.im (.int i)] => P (.im (.int (if i < 0 then -i else i))) m
  | _ => False
theorem ca_abs : CA X (.builtin "abs") gAbs := by
  rintro pins s σ H vs us Q I r ⟨N, M, m, ds, P, R, r1, hg, q⟩
  unfold gAbs at hg
  split at hg
  · obtain ⟨v, rfl, rv⟩ := val1 r1
    cases rv
    exact call_abs pins s σ H _ us Q I r ⟨_, rfl, q _ _ M H m .refl R (.int _) hg⟩
  · exact hg.elim
/-- min(i, j), max(i, j) -/
def gTwo (f : Int → Int → Int) : GL := fun ds m P => match ds with
  | [.im (.int i), .im (.int j)] => P (.im (.int (f i j))) m
  | _ => False
theorem ca_min2 (hc : X.calm = true) : CA X (.builtin "min") (gTwo fun i j => if j < i then j else i) := by
  rintro pins s σ H vs us Q I r ⟨N, M, m, ds, P, R, r1, hg, q⟩
  unfold gTwo at hg
  split at hg
  · obtain ⟨v, w, rfl, rv, rw'⟩ := val2 r1
    cases rv; cases rw'
    exact call_min2 hc pins s σ H _ us Q I r ⟨_, _, rfl, q _ _ M H m .refl R (.int _) hg⟩
  · exact hg.elim
theorem ca_max2 (hc : X.calm = true) : CA X (.builtin "max") (gTwo fun i j => if j > i then j else i) := by
  rintro pins s σ H vs us Q I r ⟨N, M, m, ds, P, R, r1, hg, q⟩
  unfold gTwo at hg
  split at hg
  · obtain ⟨v, w, rfl, rv, rw'⟩ := val2 r1
    cases rv; cases rw'
    exact call_max2 hc pins s σ H _ us Q I r ⟨_, _, rfl, q _ _ M H m .refl R (.int _) hg⟩
  · exact hg.elim
/-- all(..), any(..) of a list of booleans -/
def bools : List PyData → Option (List Bool)
  | [] => some []
  | .bool b :: r => (bools r).map (b :: ·)
  | _ => none
theorem bools_of {M : List Addr} {H : Hp} : ∀ {us : List V} {xs : List PyData} {bs : List Bool}, Reps M H us xs → bools xs = some bs → us = bs.map V.bl
  | _, [], _, .nil, h => by cases h; rfl
  | _, .bool b :: r, _, .cons r1 r2, h => by
    unfold bools at h
    obtain ⟨cs, h1, rfl⟩ := Option.map_eq_some_iff.mp h
    cases r1
    rw [bools_of r2 h1]; rfl
theorem bools_map : ∀ bs : List Bool, bools (bs.map PyData.bool) = some bs
  | [] => rfl
  | b :: r => by simp [bools, bools_map r]
def gAll (f : List Bool → Bool) : GL := fun ds m P => match ds with
  | [d] => (match asL d m with | some xs => (match bools xs with | some bs => P (.im (.bool (f bs))) m | none => False) | none => False)
  | _ => False
theorem ca_all (hc : X.calm = true) : CA X (.builtin "all") (gAll fun bs => bs.all id) := by
  rintro pins s σ H vs us Q I r ⟨N, M, m, ds, P, R, r1, hg, q⟩
  unfold gAll at hg
  split at hg
  · obtain ⟨v, rfl, rv⟩ := val1 r1
    split at hg
    · rename_i xs e1
      split at hg
      · rename_i bs e2
        obtain ⟨a, us', rfl, h1, z⟩ := asL_of R rv e1
        have := bools_of z e2
        subst this
        exact cr_all hc pins s σ H _ us Q I r ⟨a, bs, rfl, .inl (.inl h1), q _ (.im (.bool _)) M H m .refl R (.bl _) hg⟩
      · exact hg.elim
    · exact hg.elim
  · exact hg.elim
theorem ca_any (hc : X.calm = true) : CA X (.builtin "any") (gAll fun bs => bs.any id) := by
  rintro pins s σ H vs us Q I r ⟨N, M, m, ds, P, R, r1, hg, q⟩
  unfold gAll at hg
  split at hg
  · obtain ⟨v, rfl, rv⟩ := val1 r1
    split at hg
    · rename_i xs e1
      split at hg
      · rename_i bs e2
        obtain ⟨a, us', rfl, h1, z⟩ := asL_of R rv e1
        have := bools_of z e2
        subst this
        exact cr_any hc pins s σ H _ us Q I r ⟨a, bs, rfl, .inl (.inl h1), q _ (.im (.bool _)) M H m .refl R (.bl _) hg⟩
      · exact hg.elim
    · exact hg.elim
  · exact hg.elim
/-- repr(x) -/
def gRepr : GL := fun ds m P => match ds with
  | [d] => (match dat d m with | some x => x.showable = true ∧ x.depth ≤ 100 ∧ x.shown.length ≤ sizeLine ∧ (x.hasDict = false ∨ ∃ y, d = .im y) ∧ P (.im (.str x.shown)) m | none => False)
  | _ => False
theorem ca_repr (hgu : X.A.guards = some []) (hr : Room k X.A) : CA X (.builtin "repr") gRepr := by
  rintro pins s σ H vs us Q I r ⟨N, M, m, ds, P, R, r1, hg, q⟩
  unfold gRepr at hg
  split at hg
  · rename_i d
    obtain ⟨v, rfl, rv⟩ := val1 r1
    split at hg
    · rename_i x e1
      obtain ⟨sh, dp, sz, hd, hg⟩ := hg
      have un := hr.un
      by_cases c : ∃ y, d = .im y
      · obtain ⟨y, rfl⟩ := c
        cases e1
        exact call_repr hgu hr pins s σ H _ us Q I r ⟨M ++ N, v, x, rfl, rv, sh, dp, sz, q _ _ M H m .refl R (.str _) hg⟩
      · have nd := hd.resolve_right c
        obtain ⟨u, rfl, ru⟩ := vals1 r
        obtain ⟨as, rd, no⟩ := dat_of I R rv e1 ru fun _ => nd
        have isref : ∃ a, v = .ref a := by
          unfold dat at e1
          split at e1
          · exact absurd ⟨_, rfl⟩ c
          · cases e1
          · obtain ⟨xs, h1, _⟩ := Option.map_eq_some_iff.mp e1
            obtain ⟨a, us', rfl, _⟩ := asL_of R rv h1
            exact ⟨a, rfl⟩
        obtain ⟨a, rfl⟩ := isref
        cases ru
        exact PySem.repr_of_reads' rd sh no hgu (by omega) (fun _ _ e => e) (fun h' u tk kp => ⟨.str _, H, I.kept kp, ⟨_, rfl⟩, q _ _ M H m .refl R (.str _) hg⟩) sz
    · exact hg.elim
  · exact hg.elim
/-- int(x) of a number or a boolean; str(i) -/
def gI1 : GL := fun ds m P => match ds with
  | [.im (.int i)] => P (.im (.int i)) m
  | [.im (.bool b)] => P (.im (.int (if b = true then 1 else 0))) m
  | _ => False
theorem ca_int : CA X (.type "int") gI1 := by
  rintro pins s σ H vs us Q I r ⟨N, M, m, ds, P, R, r1, hg, q⟩
  unfold gI1 at hg
  split at hg
  · obtain ⟨v, rfl, rv⟩ := val1 r1
    cases rv
    exact call_int1 pins s σ H _ us Q I r (.inl ⟨_, rfl, q _ _ M H m .refl R (.int _) hg⟩)
  · obtain ⟨v, rfl, rv⟩ := val1 r1
    cases rv
    exact call_int1 pins s σ H _ us Q I r (.inr ⟨_, rfl, q _ (.im (.int _)) M H m .refl R (.int _) hg⟩)
  · exact hg.elim
def gStr : GL := fun ds m P => match ds with
  | [.im (.int i)] => i.natAbs.log2 < 1920 ∧ P (.im (.str (toString i))) m
  | [.im (.bool b)] => P (.im (.str (if b then "True" else "False"))) m
  | _ => False
theorem ca_str : CA X (.type "str") gStr := by
  rintro pins s σ H vs us Q I r ⟨N, M, m, ds, P, R, r1, hg, q⟩
  unfold gStr at hg
  split at hg
  · obtain ⟨v, rfl, rv⟩ := val1 r1
    cases rv
    exact call_strN pins s σ H _ us Q I r (.inl ⟨_, rfl, hg.1, q _ _ M H m .refl R (.str _) hg.2⟩)
  · obtain ⟨v, rfl, rv⟩ := val1 r1
    cases rv
    exact call_strN pins s σ H _ us Q I r (.inr ⟨_, rfl, q _ (.im (.str _)) M H m .refl R (.str _) hg⟩)
  · exact hg.elim
/-- tuple(x), list(x) -/
def gTupOf : GL := fun ds m P => match ds with
  | [.im (.str z)] => z.length ≤ sizeLine ∧ P (.im (.tuple (z.cps.toList.map fun c => .str ⟨#[c]⟩))) m
  | [d] => (match asQ d m with | some xs => P (.im (.tuple xs)) m | none => False)
  | _ => False
theorem ca_tuple (hc : X.calm = true) : CA X (.type "tuple") gTupOf := by
  rintro pins s σ H vs us Q I r ⟨N, M, m, ds, P, R, r1, hg, q⟩
  unfold gTupOf at hg
  split at hg
  · rename_i z
    obtain ⟨v, rfl, rv⟩ := val1 r1
    cases rv
    refine Gd.call_tuple_str hc pins s σ H _ us Q I r ⟨z, rfl, hg.1, fun p hp => ?_⟩
    have rr : Reps (M ++ N) (upd H p (.tup (z.cps.toList.map fun c => V.str ⟨#[c]⟩))) (z.cps.toList.map fun c => V.str ⟨#[c]⟩) (z.cps.toList.map fun c => .str ⟨#[c]⟩) := by
      generalize z.cps.toList = l
      generalize upd H p _ = H'
      induction l with
      | nil => exact .nil
      | cons a b ih => exact .cons (.str _) ih
    exact q _ (.im (.tuple _)) M _ m (.alloc hp) (R.alloc hp) (Rep.tup (R.live.fresh hp) upd_same rr) hg.2
  · rename_i d _
    obtain ⟨v, rfl, rv⟩ := val1 r1
    split at hg
    · rename_i xs eq
      unfold asQ at eq
      split at eq
      · rename_i ys e1
        cases eq
        obtain ⟨a, us', rfl, n, h1, z⟩ := asT_of rv e1
        exact call_tuple_of pins s σ H _ us Q I r ⟨a, us', rfl, .inr ⟨.inl (.inl h1), q _ (.im (.tuple _)) M H m .refl R (Rep.tup n h1 z) hg⟩⟩
      · obtain ⟨a, us', rfl, h1, z⟩ := asL_of R rv eq
        exact call_tuple_of pins s σ H _ us Q I r ⟨a, us', rfl, .inl ⟨.inl (.inl h1), fun p hp => q _ (.im (.tuple _)) M _ m (.alloc hp) (R.alloc hp) (Rep.tup (R.live.fresh hp) upd_same (z.keep (Kp.new hp))) hg⟩⟩
    · exact hg.elim
  · exact hg.elim
def gListOf : GL := fun ds m P => match ds with
  | [d] => (match asQ d m with | some xs => P (.wl xs) m | none => False)
  | _ => False
/-- .. a list that may change -/
def gListM : GL := fun ds m P => match ds with
  | [d] => (match asQ d m with | some xs => P (.mu m.length) (m ++ [.lst (xs.map .im)]) | none => False)
  | _ => False
theorem list_of {pins : List (Addr × Obj)} {s : Shared} {σ : L2.St} {H : Hp} {N M : List Addr} {m : Store} {vs : List V} {us : List Value} {d : AV} {xs : List PyData} {Q : VK} (I : Inv X pins σ H s) (R : Rel N M H m) (r : Vals vs us) (r1 : RVs M.length N M H vs [d]) (e : asQ d m = some xs)
    (q : ∀ ws p, H p = none → Reps (M ++ N) H ws xs → Q (.ref p) (upd H p (.lst ws))) : wpAny (model X.prog X.w) X.A (call (.type "list") us) (EP X pins σ Q) X.xe s := by
  obtain ⟨v, rfl, rv⟩ := val1 r1
  unfold asQ at e
  split at e
  · rename_i ys e1
    cases e
    obtain ⟨a, us', rfl, n, h1, z⟩ := asT_of rv e1
    exact call_list_of pins s σ H _ us Q I r ⟨a, us', rfl, .inr (.inl (.inl h1)), fun p hp => q us' p hp z⟩
  · obtain ⟨a, us', rfl, h1, z⟩ := asL_of R rv e
    exact call_list_of pins s σ H _ us Q I r ⟨a, us', rfl, .inl (.inl (.inl h1)), fun p hp => q us' p hp z⟩
theorem ca_list : CA X (.type "list") gListOf := by
  rintro pins s σ H vs us Q I r ⟨N, M, m, ds, P, R, r1, hg, q⟩
  unfold gListOf at hg
  split at hg
  · split at hg
    · rename_i xs e
      exact list_of I R r r1 e fun ws p hp z => by
        obtain ⟨x', R', r'⟩ := new_wl R hp z
        exact q _ _ M _ m x' R' r' hg
    · exact hg.elim
  · exact hg.elim
theorem ca_listM : CA X (.type "list") gListM := by
  rintro pins s σ H vs us Q I r ⟨N, M, m, ds, P, R, r1, hg, q⟩
  unfold gListM at hg
  split at hg
  · split at hg
    · rename_i xs e
      exact list_of I R r r1 e fun ws p hp z => by
        obtain ⟨a, b, c⟩ := newL R hp (to_ims (n := M.length) z)
        exact q _ (.mu m.length) _ _ _ b a c hg
    · exact hg.elim
  · exact hg.elim
/-- sorted(list) of data of one shape -/
def gSorted : GL := fun ds m P => match ds with
  | [d] => (match asL d m with | some xs => W.AllAlike xs ∧ W.Sortable xs ∧ (∀ x ∈ xs, x.depth ≤ 60) ∧ P (.wl (sortD xs)) m | none => False)
  | _ => False
theorem ca_sorted (hr : Room k X.A) : CA X (.builtin "sorted") gSorted := by
  rintro pins s σ H vs us Q I r ⟨N, M, m, ds, P, R, r1, hg, q⟩
  unfold gSorted at hg
  split at hg
  · obtain ⟨v, rfl, rv⟩ := val1 r1
    split at hg
    · rename_i xs e
      obtain ⟨a1, a2, a3, hg⟩ := hg
      obtain ⟨a, us', rfl, h1, z⟩ := asL_of R rv e
      refine cr_sortedD (K := X.K) rfl hr pins s σ H _ us Q I r ⟨M ++ N, a, us', xs, rfl, .inl (.inl h1), z, a1, a2, a3, fun p ws _ rw' hp => ?_⟩
      obtain ⟨x', R', r'⟩ := new_wl R hp rw'
      exact q _ _ M _ m x' R' r' hg
    · exact hg.elim
  · exact hg.elim
variable {B : Bk} {e o : Expr} {es : List Expr} {t te to : TE} {tl : TA} {we wo : WE} {wl : WL} {p pos : Pos} {x : Str} {id T : String}
theorem ae_callB {g : GL} (hc : CA X (.builtin id) g) (hg : Gl X x) (hm : X.mg x = none) (hv : bootBuiltins x = some (.builtin id)) (ha : AL X B (e :: es) tl wl) (hn : x ≠ "__name__" := by decide) (hdb : (x == ("__debug__" : Str)) = false := by decide)
    (he : starEach (e :: es) X.env = (false, eval e X.env) :: starEach es X.env := by rfl) (hpl : (backTo pos (starEach es X.env)).any (·.1) = false := by rfl) : AE X B (.Call (.Name x p) (e :: es) [] pos) (tCB (lL g) tl) (wCB g wl) := ⟨pe_callB hc hg hm hv ha.pa hn hdb he hpl, le_cb ha.la⟩
theorem ae_callTy {g : GL} (hc : CA X (.type T) g) (hg : Gl X x) (hm : X.mg x = none) (hv : bootBuiltins x = some (.type T)) (ha : AL X B (e :: es) tl wl) (hn : x ≠ "__name__" := by decide) (hdb : (x == ("__debug__" : Str)) = false := by decide)
    (he : starEach (e :: es) X.env = (false, eval e X.env) :: starEach es X.env := by rfl) (hpl : (backTo pos (starEach es X.env)).any (·.1) = false := by rfl) : AE X B (.Call (.Name x p) (e :: es) [] pos) (tCB (lL g) tl) (wCB g wl) := ⟨pe_callTy hc hg hm hv ha.pa hn hdb he hpl, le_cb ha.la⟩
/-- isinstance(e, T) -/
def wIsI (f : PyData → Bool) (w : WE) : WE := fun ρ m P => w ρ m fun d m1 => match d with | .im y => P (.im (.bool (f y))) m1 | _ => False
theorem ae_isI {f : PyData → Bool} {n : Expr} (hc : CallR X (.builtin "isinstance") (rIs f T)) (hg : Gl X "isinstance") (hm : X.mg "isinstance" = none) (hv : bootBuiltins "isinstance" = some (.builtin "isinstance")) (ha : AE X B e t we) (hT : PE X n (tC (.ty T)))
    (hs1 : starEach (e :: [n]) X.env = (false, eval e X.env) :: starEach [n] X.env := by rfl) (hs2 : starEach (n :: []) X.env = (false, eval n X.env) :: starEach [] X.env := by rfl)
    (hpl : (backTo pos (starEach [n] X.env)).any (·.1) = false := by rfl) : AE X B (.Call (.Name "isinstance" p) [e, n] [] pos) (tCB (rIs f T) (tCons t (tCons (tC (.ty T)) tNil))) (wIsI f we) :=
  ⟨pe_callB hc hg hm hv (pa_cons ha.pe (pa_cons hT pa_nil hs2) hs1) (by decide) (by decide) hs1 hpl, fun N M H σ ρ m P Q x0 S R hw q => ha.le N M H σ ρ m _ _ x0 S R hw fun v d M1 H1 m1 x1 R1 r1 h1 => by
    split at h1
    · exact ⟨M1 ++ N, v, _, rfl, r1, q _ (.im (.bool _)) M1 H1 m1 x1 R1 (.bl _) h1⟩
    · exact h1.elim⟩
/-! ### methods of lists -/
def isList (d : AV) (m : Store) : Prop := match d with
  | .mu j => (match m[j]? with | some (.lst _) => True | _ => False)
  | d => (match asL d m with | some _ => True | none => False)
theorem isList_of {N M : List Addr} {H : Hp} {m : Store} {v : V} {d : AV} {K : PySem.W.Frag} (R : Rel N M H m) (r : RV M.length N M H v d) (h : isList d m) : tyV K "list" v H := by
  unfold isList at h
  split at h
  · rename_i j
    obtain ⟨_, a, ha, rfl⟩ := r
    split at h
    · rename_i xs ex
      obtain ⟨us, h3, _⟩ := R.cell j a _ ha ex
      exact .inl ⟨rfl, _, .inl (.inl h3)⟩
    · exact h.elim
  · split at h
    · rename_i e
      obtain ⟨a, us, rfl, h1, _⟩ := asL_of R r e
      exact .inl ⟨rfl, _, .inl (.inl h1)⟩
    · exact h.elim
abbrev GM := AV → List AV → Store → (AV → Store → Prop) → Prop
abbrev MA (X : Cx) (id : String) (g : GM) : Prop := MtR X id (lM g)
def wML (g : GM) (wo : WE) (wl : WL) : WE := fun ρ m P => wo ρ m fun d m1 => isList d m1 ∧ wl ρ m1 fun ds m2 => g d ds m2 P
theorem ae_ml {g : GM} {name : Str} {apos : Pos} (pa : PlainAttrs "list") (slot : Slot "list" name id) (hty : typeOf (.builtin id) = pure (.type "method_descriptor")) (hm : MA X id g) (ho : AE X B o to wo) (ha : AL X B (e :: es) tl wl)
    (hbase : attributeBase o name X.env (eval o X.env) = eval o X.env := by rfl)
    (hfew : ((backTo pos (starEach (e :: es) X.env)).all (fun x => !x.1) && (backToKw pos (keywordEach [] X.env)).all (fun x => x.1.isSome) && decide ((e :: es).length + ([] : List Keyword).length + (if ([] : List Keyword).isEmpty then 0 else 1) < 30)) = true := by rfl)
    (hline : (apos.endLine == pos.line) = true := by rfl) (hs : starEach (e :: es) X.env = (false, eval e X.env) :: starEach es X.env := by rfl) (hplain : (backTo pos (starEach es X.env)).any (·.1) = false := by rfl) {K : PySem.W.Frag} (hK : X.K = K := by rfl) :
    AE X B (.Call (.Attribute o name apos) (e :: es) [] pos) (tBM K "list" (lM g) to tl) (wML g wo wl) :=
  ⟨hK ▸ pe_bm pa slot hty hm ho.pe ha.pa hbase hfew hline hs hplain, fun N M H σ ρ m P Q x0 S R hw q => ho.le N M H σ ρ m _ _ x0 S R hw fun v d M1 H1 m1 x1 R1 r1 h1 => ⟨isList_of R1 r1 h1.1, ha.la N M1 H1 σ ρ m1 _ _ (x0.trans x1) (S.ext x1) R1 h1.2 fun vs ds M2 H2 m2 x2 R2 r2 h2 =>
    ⟨N, M2, m2, d, ds, P, R2, r1.extL x2, r2, h2, fun z f M3 H3 m3 x3 R3 r3 h3 => q z f M3 H3 m3 ((x1.trans x2).trans x3) R3 r3 h3⟩⟩⟩
def gApp : GM := fun d ds m P => match d, ds with
  | .mu j, [y] => y.und j = true ∧ (match m[j]? with | some (.lst xs) => xs.length < sizeLine ∧ P (.im .none) (m.set j (.lst (xs ++ [y]))) | _ => False)
  | _, _ => False
theorem ma_append : MA X "list.append" gApp := by
  rintro pins s σ H x vs v us Q I rx rs ⟨N, M, m, d, ds, P, R, r1, r2, hg, q⟩
  unfold gApp at hg
  split at hg
  · rename_i j y
    obtain ⟨hu, hg⟩ := hg
    split at hg
    · rename_i xs ex
      obtain ⟨_, a, ha, rfl⟩ := r1
      obtain ⟨w, rfl, rw'⟩ := val1 r2
      obtain ⟨us', h3, h4⟩ := R.cell j a _ ha ex
      have ma : a ∈ M := List.mem_of_getElem? ha
      obtain ⟨R', x'⟩ := R.put (c := .lst (xs ++ [y])) (o := .lst (us' ++ [w])) ha ⟨_, upd_same, pair_imp (fun _ _ r => r.put ma) (pair_app h4 (.cons (rw'.und2 hu) .nil))⟩
      exact mt_append pins s σ H _ _ v us Q I rx rs ⟨a, us', w, rfl, rfl, h3, by rw [pair_len h4]; exact hg.1, q _ (.im .none) M _ _ x' R' .non hg.2⟩
    · exact hg.elim
  · exact hg.elim
def gExt : GM := fun d ds m P => match d, ds with
  | .mu j, [e] => (match m[j]?, asL e m with | some (.lst xs), some ys => xs.length + ys.length ≤ sizeLine ∧ P (.im .none) (m.set j (.lst (xs ++ ys.map .im))) | _, _ => False)
  | _, _ => False
theorem ma_extend : MA X "list.extend" gExt := by
  rintro pins s σ H x vs v us Q I rx rs ⟨N, M, m, d, ds, P, R, r1, r2, hg, q⟩
  unfold gExt at hg
  split at hg
  · rename_i j e
    split at hg
    · rename_i xs ys ex ey
      obtain ⟨_, a, ha, rfl⟩ := r1
      obtain ⟨w, rfl, rw'⟩ := val1 r2
      obtain ⟨us', h3, h4⟩ := R.cell j a _ ha ex
      obtain ⟨b, ws, rfl, h5, h6⟩ := asL_of R rw' ey
      have ma : a ∈ M := List.mem_of_getElem? ha
      obtain ⟨R', x'⟩ := R.put (c := .lst (xs ++ ys.map .im)) (o := .lst (us' ++ ws)) ha ⟨_, upd_same, pair_imp (fun _ _ r => r.put ma) (pair_app h4 (to_ims h6))⟩
      exact mt_extend pins s σ H _ _ v us Q I rx rs ⟨a, b, us', ws, rfl, rfl, h3, h5, by rw [pair_len h4, h6.length]; exact hg.1, q _ (.im .none) M _ _ x' R' .non hg.2⟩
    · exact hg.elim
  · exact hg.elim
end
end Ab
end

section
set_option maxRecDepth 100000
set_option maxHeartbeats 4000000
/-! Readings over data: what a def promises. -/
namespace Ab
open PySem PySem.Spec PyProof.Rows L2 Gd
abbrev ASp := List AV → Store → (AV → Store → Prop) → (Er → Store → Prop) → Prop
def lift (sp : ASp) : Sp := fun vs H Q E => ∃ N M m ds P EA, Rel N M H m ∧ RVs M.length N M H vs ds ∧ sp ds m P EA ∧ EOk N M H E EA ∧ ∀ v d M' H' m', Ext M H M' H' → Rel N M' H' m' → RV M'.length N M' H' v d → P d m' → Q v H'
abbrev noE : Er → Store → Prop := fun _ _ => False
theorem EOk.no {N M : List Addr} {H : Hp} {E : XK} : EOk N M H E noE := fun _ _ _ _ _ _ _ _ _ _ _ _ z => z.elim
theorem Rel.sub {N N' M : List Addr} {H : Hp} {m : Store} (h : ∀ b ∈ N', b ∈ N) (R : Rel N M H m) : Rel N' M H m := ⟨R.nd, R.len, fun i a c h1 h2 => (R.cell i a c h1 h2).map (a' := a) (fun _ _ r => r.less h) (fun _ z => z), fun a ha => R.there a (h a ha)⟩
theorem EOk.at {B : Bk} (e : EOk B.N0 B.M0 B.H0 B.E B.EA) {N M : List Addr} {H : Hp} (x0 : B.Ok N M H) : EOk N M H B.E B.EA := fun M' H' m' C fs d us x R hd nd r z =>
  e M' H' m' C fs d us (x0.ext.trans x) (R.sub x0.sub) hd (fun q => nd ((List.mem_append.mp q).elim (List.mem_append_left _) fun q => List.mem_append_right _ (x0.sub _ q))) (pair_imp (fun _ _ r => ⟨r.1, r.2.less x0.sub⟩) r) z
/-! ### behind a return -/
def Cell.und (n : Nat) : Cell → Bool
  | .lst xs => xs.all (AV.und n)
  | .dk kvs => kvs.all fun kv => kv.2.und n
  | .dt kvs => kvs.all fun kv => kv.2.und n
  | .fz _ _ kvs => kvs.all fun kv => kv.2.und n
/-- what the def made that may change is forgotten, but for what it returns -/
def retA (n : Nat) (P : AV → Store → Prop) : AV → Store → Prop := fun d m => match d with
  | .mu i => if i < n then P (.mu i) (m.take n) else (match m[i]? with | some c => c.und n = true ∧ P (.mu n) (m.take n ++ [c]) | none => False)
  | d => d.und n = true ∧ P d (m.take n)
theorem RV.sub2 {N M M2 : List Addr} {H : Hp} {k n : Nat} (hn : n ≤ M.length) (hs : ∀ b ∈ M2, b ∈ M) (hp : ∀ i, i < n → M2[i]? = M[i]?) : ∀ {v : V} {d : AV}, d.und n = true → RV k N M H v d → RV n N M2 H v d
  | _, .im _, _, r => Gd.Rep.less (fun b z => (List.mem_append.mp z).elim (fun z => List.mem_append_left _ (hs b z)) (List.mem_append_right _)) r
  | _, .mu i, h, ⟨_, a, h1, h2⟩ => by
    have h : i < n := by simpa [AV.und] using h
    exact ⟨h, a, by rw [hp i h]; exact h1, h2⟩
  | _, .pr x y, h, ⟨a, u, w, h1, h2, h3, r1, r2⟩ => by
    have h : x.und n = true ∧ y.und n = true := by simpa [AV.und] using h
    exact ⟨a, u, w, h1, fun z => h2 ((List.mem_append.mp z).elim (fun z => List.mem_append_left _ (hs a z)) (List.mem_append_right _)), h3, r1.sub2 hn hs hp h.1, r2.sub2 hn hs hp h.2⟩
  | _, .wl _, _, ⟨a, us, h1, h2, h3, r⟩ => ⟨a, us, h1, fun z => h2 ((List.mem_append.mp z).elim (fun z => List.mem_append_left _ (hs a z)) (List.mem_append_right _)), h3, Gd.Reps.less (fun b z => (List.mem_append.mp z).elim (fun z => List.mem_append_left _ (hs b z)) (List.mem_append_right _)) r⟩
theorem pair_all {α β : Type} {F G : α → β → Prop} {p : β → Bool} (h : ∀ a b, p b = true → F a b → G a b) : ∀ {xs : List α} {ys : List β}, ys.all p = true → Paired F xs ys → Paired G xs ys
  | _, _, _, .nil => .nil
  | _, _, z, .cons r t => by
    rw [List.all_cons, Bool.and_eq_true] at z
    exact .cons (h _ _ z.1 r) (pair_all h z.2 t)
theorem RC.sub2 {N M M2 : List Addr} {H : Hp} {k n : Nat} {a : Addr} (hn : n ≤ M.length) (hs : ∀ b ∈ M2, b ∈ M) (hp : ∀ i, i < n → M2[i]? = M[i]?) : ∀ {c : Cell}, c.und n = true → RC k N M H a c → RC n N M2 H a c
  | .lst _, h, ⟨us, h1, h2⟩ => ⟨us, h1, pair_all (fun _ _ z r => r.sub2 hn hs hp z) h h2⟩
  | .dk _, h, ⟨us, h1, h2⟩ => ⟨us, h1, pair_all (fun _ _ z r => ⟨r.1, r.2.sub2 hn hs hp z⟩) h h2⟩
  | .dt _, h, ⟨us, h1, h2⟩ => ⟨us, h1, pair_all (fun _ _ z r => ⟨r.1, r.2.sub2 hn hs hp z⟩) h h2⟩
  | .fz _ _ _, h, ⟨h1, h2⟩ => ⟨h1, pair_all (fun _ _ z r => ⟨r.1, r.2.sub2 hn hs hp z⟩) h h2⟩
theorem ret_ok {N M : List Addr} {H : Hp} {m : Store} {P : AV → Store → Prop} {Q : VK} (R : Rel N M H m) (q : ∀ v d M' H' m', Ext M H M' H' → Rel N M' H' m' → RV M'.length N M' H' v d → P d m' → Q v H') {M' : List Addr} {H' : Hp} {v : V} {d : AV} {m' : Store}
    (x : Ext M H M' H') (R' : Rel N M' H' m') (r : RV M'.length N M' H' v d) (h : retA m.length P d m') : Q v H' := by
  have hle : m.length ≤ M'.length := by rw [← R.len]; exact x.len
  have xc := x.cut
  have Rc := R'.cut M.length
  rw [R.len] at xc Rc
  have lt : (M'.take m.length).length = m.length := by rw [List.length_take]; omega
  unfold retA at h
  split at h
  · rename_i i
    split at h
    · rename_i hi
      obtain ⟨_, a, ha, rfl⟩ := r
      exact q _ (.mu i) _ _ _ xc Rc ⟨by rw [lt]; exact hi, a, by rw [List.getElem?_take_of_lt hi]; exact ha, rfl⟩ h
    · rename_i hi
      split at h
      · rename_i c ec
        obtain ⟨hu, h⟩ := h
        obtain ⟨_, a, ha, rfl⟩ := r
        have rc := R'.cell i a c ha ec
        have am : a ∈ M' := List.mem_of_getElem? ha
        have na : a ∉ M'.take m.length := fun z => by
          obtain ⟨j, hj, e⟩ := List.mem_iff_getElem.mp z
          rw [lt] at hj
          rw [List.getElem_take] at e
          have h2 : M'[j]? = some a := by rw [← e]; exact List.getElem?_eq_getElem _
          have := (List.getElem?_inj (List.getElem?_eq_some_iff.mp h2).1 R'.nd).mp (h2.trans ha.symm)
          omega
        have sub : ∀ b ∈ M'.take m.length ++ [a], b ∈ M' := fun b hb => by
          rcases List.mem_append.mp hb with hb | hb
          · exact List.mem_of_mem_take hb
          · rw [List.mem_singleton.mp hb]; exact am
        have pre : ∀ j, j < m.length → (M'.take m.length ++ [a])[j]? = M'[j]? := fun j hj => by
          rw [List.getElem?_append_left (by rw [lt]; exact hj), List.getElem?_take_of_lt hj]
        have x2 : Ext M H (M'.take m.length ++ [a]) H' := by
          refine ⟨xc.pre.trans (List.prefix_append _ _), x.kp, fun b h1 h2 => x.new b (sub b h1) h2⟩
        refine q _ (.mu m.length) _ H' _ x2 ⟨nodup_snoc Rc.nd na, by rw [List.length_append, List.length_append, Rc.len]; rfl, fun j b c' h1 h2 => ?_, R'.there⟩ ⟨by rw [List.length_append, lt]; simp, a, by rw [List.getElem?_append_right (by rw [lt]; exact Nat.le_refl _), lt]; simp, rfl⟩ h
        rcases getD_snoc h1 with g1 | ⟨g1, g2⟩
        · rcases getD_snoc h2 with g3 | ⟨g3, g4⟩
          · have hj := (List.getElem?_eq_some_iff.mp g1).1
            rw [lt] at hj
            rw [List.getElem?_take_of_lt hj] at g1
            have hj2 := (List.getElem?_eq_some_iff.mp g3).1
            rw [List.length_take] at hj2
            rw [List.getElem?_take_of_lt (by omega)] at g3
            have rcj := R'.cell j b c' g1 g3
            refine rcj.map (a' := b) (fun v d r => ?_) (fun _ z => z)
            have mv : ∀ {v : V} {d : AV}, RV j N M' H' v d → RV j N (M'.take m.length ++ [a]) H' v d := fun {v d} r => by
              induction d generalizing v with
              | im d => exact Gd.Rep.less (fun b z => (List.mem_append.mp z).elim (fun z => List.mem_append_left _ (sub b z)) (List.mem_append_right _)) r
              | mu i => obtain ⟨h0, b2, h1, h2⟩ := r; exact ⟨h0, b2, by rw [pre i (by omega)]; exact h1, h2⟩
              | pr p q i1 i2 => obtain ⟨b2, s, t, h1, h2, h3, r1, r2⟩ := r; exact ⟨b2, s, t, h1, fun z => h2 ((List.mem_append.mp z).elim (fun z => List.mem_append_left _ (sub b2 z)) (List.mem_append_right _)), h3, i1 r1, i2 r2⟩
              | wl xs => obtain ⟨b2, us, h1, h2, h3, r⟩ := r; exact ⟨b2, us, h1, fun z => h2 ((List.mem_append.mp z).elim (fun z => List.mem_append_left _ (sub b2 z)) (List.mem_append_right _)), h3, Gd.Reps.less (fun b z => (List.mem_append.mp z).elim (fun z => List.mem_append_left _ (sub b z)) (List.mem_append_right _)) r⟩
            exact mv r
          · have hj := (List.getElem?_eq_some_iff.mp g1).1
            rw [Rc.len] at hj
            omega
        · rcases getD_snoc h2 with g3 | ⟨g3, g4⟩
          · have hj := (List.getElem?_eq_some_iff.mp g3).1
            rw [← Rc.len] at hj
            omega
          · subst g2 g4
            rw [g1, lt]
            exact rc.sub2 hle sub pre hu
      · exact h.elim
  · obtain ⟨hu, h⟩ := h
    exact q _ _ _ _ _ xc Rc (by rw [lt]; exact r.und hle hu) h
/-! ### a def by its body -/
def startA (N : List Str) (ds : List AV) : Slots := ds.map some ++ List.replicate (N.length - ds.length) none
theorem SR.start {N M : List Addr} {H : Hp} {Ns : List Str} {vs : List V} {ds : List AV} (r : RVs M.length N M H vs ds) : SR N M H (start Ns vs) (startA Ns ds) := by
  have l := pair_len r
  refine ⟨by simp [L2.start, startA, l], fun i d h => ?_⟩
  unfold startA at h
  unfold L2.start
  by_cases hi : i < ds.length
  · rw [List.getElem?_append_left (by simpa using hi), List.getElem?_map] at h
    obtain ⟨e, h1, h2⟩ := Option.map_eq_some_iff.mp h
    cases h2
    obtain ⟨v, h3, h4⟩ := pair_at r h1
    exact ⟨v, by rw [List.getElem?_append_left (by simp [l]; exact hi), List.getElem?_map, h3]; rfl, h4⟩
  · rw [List.getElem?_append_right (by simp; omega)] at h
    have := List.mem_of_getElem? h
    rw [List.mem_replicate] at this
    cases this.2
section
variable {P : Program} {w : World} {K : PySem.W.Frag} {mg : Str → Option Value} {base : Heap} {k : Nat} {x : Str} {N ps : List Str} {sp : ASp} {st : Stmt}
/-- a def that lets no exception out -/
theorem okA (D : Defd K mg x st) (S : FnScope N ps (defScope st)) (hb : ∀ (kV doc pm : Value) (an : Option Addr) (cdv ct : Value) (us : List Value), us.length = ps.length →
      bindArgs (PySem.W.fnOf x x (defArgs st) (defBody st) (defScope st) .none kV doc pm an cdv ct) ⟨us, []⟩ = pure (ps.zip us)) (len : ∀ ds m Q EA, sp ds m Q EA → ds.length = ps.length)
    (hbody : ∀ (f : Addr) (cdv : Value) (A : Around) (outer : List Env) (s : Shared) (H : Hp) (E : XK) (B : Bk), A.guards = some [] → Room k (A.deeper (envOfC x (defScope st) s.heap.objs.size f cdv)) →
      ∃ t wd, ASs (cxOf CX0 P w K mg base N x (defScope st) f cdv A outer s H E).nox B (defBody st) t wd ∧ ∀ ds m Q, sp ds m Q B.EA → wd { nx := fun _ m' => retA m.length Q (.im .none) m', rt := retA m.length Q } (startA N ds) m) :
    Callee P w K mg base CX0 (k + 1) x ps (lift sp) := by
  refine D.ok S hb (fun vs H Q E ⟨Nn, M, m, ds, Pd, EA, R, r, h, _⟩ => by rw [pair_len r]; exact len ds m Pd EA h) fun f cdv A outer s H vs Q E hgu hr h => ?_
  obtain ⟨Nn, M, m, ds, Pd, EA, R, r, h, eo, q⟩ := h
  obtain ⟨t, wd, as, hw⟩ := hbody f cdv A outer s H E ⟨Nn, M, H, E, EA⟩ hgu hr
  refine ⟨t, as.ps, as.ls Nn M H _ _ m _ _ ⟨.refl, fun _ z => z⟩ (SR.start r) R (hw ds m Pd h) ?_⟩
  exact ⟨fun M' H' σ ρ m' x R1 R2 h' => ret_ok R q x R2 .non h', fun M' H' v d m' x R2 rv h' => ret_ok R q x R2 rv h', fun _ _ _ _ _ _ _ _ z => z.elim, fun _ _ _ _ _ _ _ _ z => z.elim⟩
/-- a def that may raise -/
theorem okAX (D : Defd K mg x st) (S : FnScope N ps (defScope st)) (hb : ∀ (kV doc pm : Value) (an : Option Addr) (cdv ct : Value) (us : List Value), us.length = ps.length →
      bindArgs (PySem.W.fnOf x x (defArgs st) (defBody st) (defScope st) .none kV doc pm an cdv ct) ⟨us, []⟩ = pure (ps.zip us)) (len : ∀ ds m Q EA, sp ds m Q EA → ds.length = ps.length)
    (hbody : ∀ (f : Addr) (cdv : Value) (A : Around) (outer : List Env) (s : Shared) (H : Hp) (E : XK) (B : Bk), A.guards = some [] → Room k (A.deeper (envOfC x (defScope st) s.heap.objs.size f cdv)) → B.E = E → EOk B.N0 B.M0 B.H0 B.E B.EA →
      ∃ t wd, ASs (cxOf (L2.CX P w) P w K mg base N x (defScope st) f cdv A outer s H E) B (defBody st) t wd ∧ ∀ ds m Q, sp ds m Q B.EA → wd { nx := fun _ m' => retA m.length Q (.im .none) m', rt := retA m.length Q } (startA N ds) m) :
    Callee P w K mg base (L2.CX P w) (k + 1) x ps (lift sp) := by
  refine D.okX S hb (fun vs H Q E ⟨Nn, M, m, ds, Pd, EA, R, r, h, _⟩ => by rw [pair_len r]; exact len ds m Pd EA h) fun f cdv A outer s H vs Q E hgu hr h => ?_
  obtain ⟨Nn, M, m, ds, Pd, EA, R, r, h, eo, q⟩ := h
  obtain ⟨t, wd, as, hw⟩ := hbody f cdv A outer s H E ⟨Nn, M, H, E, EA⟩ hgu hr rfl eo
  refine ⟨t, as.ps, as.ls Nn M H _ _ m _ _ ⟨.refl, fun _ z => z⟩ (SR.start r) R (hw ds m Pd h) ?_⟩
  exact ⟨fun M' H' σ ρ m' x R1 R2 h' => ret_ok R q x R2 .non h', fun M' H' v d m' x R2 rv h' => ret_ok R q x R2 rv h', fun _ _ _ _ _ _ _ _ z => z.elim, fun _ _ _ _ _ _ _ _ z => z.elim⟩
end
/-! ### calls -/
section
variable {X : Cx} {B : Bk} {CX : CXT} {k : Nat} {ps : List Str} {sp : ASp} {x : Str} {p pos : Pos} {e : Expr} {es : List Expr} {tl : TA} {wl : WL}
def wCall (sp : ASp) (EA : Er → Store → Prop) (wl : WL) : WE := fun ρ m P => wl ρ m fun ds m1 => sp ds m1 P EA
theorem le_call {E : XK} {EA : Er → Store → Prop} (h : LA B tl wl) (hE : ∀ N M H, B.Ok N M H → EOk N M H E EA) : LE B (tCall (lift sp) [] E tl) (wCall sp EA wl) := fun N M H σ ρ m P Q x0 S R hw q => h N M H σ ρ m _ _ x0 S R hw fun vs ds M1 H1 m1 x1 R1 r1 h1 =>
  ⟨N, M1, m1, ds, P, EA, R1, by rw [List.append_nil]; exact r1, h1, hE N M1 H1 (x0.trans x1), fun z f M3 H3 m3 x3 R3 r3 h3 => q z f M3 H3 m3 (x1.trans x3) R3 r3 h3⟩
/-- f(e, ..), f raises nothing -/
theorem ae_call (C : Callee X.prog X.w X.K X.mg X.base CX k x ps (lift sp)) (hgu : X.A.guards = some []) (hr : Room k X.A) (hg : Gl X x) (hx : Passes CX X E0) (ha : AL X B (e :: es) tl wl) (hdb : (x == ("__debug__" : Str)) = false := by decide)
    (he : starEach (e :: es) X.env = (false, eval e X.env) :: starEach es X.env := by rfl) (hpl : (backTo pos (starEach es X.env)).any (·.1) = false := by rfl) : AE X B (.Call (.Name x p) (e :: es) [] pos) (tCall (lift sp) [] E0 tl) (wCall sp noE wl) :=
  ⟨pown C hgu hr hg hx ha.pa hdb he hpl, le_call ha.la fun _ _ _ _ => .no⟩
/-- .. what it raises leaves this def -/
theorem ae_callX (C : Callee X.prog X.w X.K X.mg X.base CX k x ps (lift sp)) (hgu : X.A.guards = some []) (hr : Room k X.A) (hg : Gl X x) (hx : Passes CX X B.E) (hE : EOk B.N0 B.M0 B.H0 B.E B.EA) (ha : AL X B (e :: es) tl wl) (hdb : (x == ("__debug__" : Str)) = false := by decide)
    (he : starEach (e :: es) X.env = (false, eval e X.env) :: starEach es X.env := by rfl) (hpl : (backTo pos (starEach es X.env)).any (·.1) = false := by rfl) : AE X B (.Call (.Name x p) (e :: es) [] pos) (tCall (lift sp) [] B.E tl) (wCall sp B.EA wl) :=
  ⟨pown C hgu hr hg hx ha.pa hdb he hpl, le_call ha.la fun _ _ _ x0 => hE.at x0⟩
end
end Ab
end

section
set_option maxRecDepth 100000
set_option maxHeartbeats 4000000
/-! Readings over data: anything that is walked; two and three names at once; two-clause and dict comprehensions. -/
namespace Ab
open PySem PySem.Spec PyProof.Rows L2 Gd
def iAny (K : PySem.W.Frag) (te : TE) : TI := fun σ H R => te σ H fun x H1 => (∃ a xs, x = .ref a ∧ SqT K H1 a xs ∧ R (Itt K a) H1) ∨ (∃ a xs, x = .ref a ∧ SqL K H1 a xs ∧ R (Itl K a) H1) ∨ ∃ z, x = .str z ∧ R (Its z) H1
theorem pi_any {X : Cx} {tg e : Expr} {te : TE} (he : PE X e te) : PI X tg e (iAny X.K te) := by
  refine ⟨fun pins s σ H R I h => thn (he.run pins s σ H _ I h) fun v s1 ⟨x, H1, I1, r1, q⟩ => ?_⟩
  rcases q with ⟨a, xs, rfl, hq, q⟩ | ⟨a, xs, rfl, hq, q⟩ | ⟨z, rfl, q⟩
  · cases r1
    obtain ⟨its, _, p, _⟩ := I1.tuple hq
    exact wpAny_pyIter_tuple p (pi_one (tk := s1.toks) I1 _ (turn_tuple a _) ⟨_, Heap.get?_push_size _ rfl, rfl, rfl⟩ q)
  · cases r1
    obtain ⟨its, _, p, _⟩ := I1.list hq
    exact wpAny_pyIter_list p.isList (pi_one (tk := s1.toks) I1 _ (turn_list a _) ⟨_, Heap.get?_push_size _ rfl, rfl, rfl⟩ q)
  · obtain ⟨t, rfl⟩ := r1
    by_cases c : z.cps.all (· < 128) = true
    · exact wpAny_pyIter_ascii c (pi_one (tk := s1.toks) I1 _ (turn_str _ z t "str_ascii_iterator" (.inl rfl)) ⟨_, Heap.get?_push_size _ rfl, rfl, rfl⟩ q)
    · exact wpAny_pyIter_wide (by simpa using c) (pi_one (tk := s1.toks) I1 _ (turn_str _ z t "str_iterator" (.inr rfl)) ⟨_, Heap.get?_push_size _ rfl, rfl, rfl⟩ q)
def wiAny (w : WE) : WI := fun ρ m P => w ρ m fun d m1 => match d with
  | .im (.tuple xs) => P (xs.map .im) yes m1
  | .im (.list xs) => P (xs.map .im) yes m1
  | .im (.str z) => P (z.cps.toList.map fun c => .im (.str ⟨#[c]⟩)) yes m1
  | .wl xs => P (xs.map .im) yes m1
  | .pr x y => P [x, y] yes m1
  | .mu i => (match m1[i]? with | some (.lst xs) => P xs (fun m => m[i]? = some (.lst xs)) m1 | _ => False)
  | _ => False
section
variable {X : Cx} {B : Bk} {e tg : Expr} {t : TE} {w : WE} {K : PySem.W.Frag}
theorem ai_any (hK : X.K = K) (h : AE X B e t w) : AI X B tg e (iAny K t) (wiAny w) := ⟨hK ▸ pi_any h.pe, fun N M H σ ρ m P R x0 S Rl hw q => h.le N M H σ ρ m _ _ x0 S Rl hw fun v d M1 H1 m1 x1 R1 r1 h1 => by
  split at h1
  · cases r1 with
    | tup n e z => exact .inl ⟨_, _, rfl, .inl (.inl e), q _ _ yes M1 H1 m1 x1 R1 (wk_tup n e z) h1⟩
  · cases r1 with
    | lst n ne e z => exact .inr (.inl ⟨_, _, rfl, .inl (.inl e), q _ _ yes M1 H1 m1 x1 R1 (wk_list n e z) h1⟩)
  · cases r1
    exact .inr (.inr ⟨_, rfl, q _ _ yes M1 H1 m1 x1 R1 wk_str h1⟩)
  · obtain ⟨a, us, rfl, n, e, z⟩ := r1
    exact .inr (.inl ⟨_, _, rfl, .inl (.inl e), q _ _ yes M1 H1 m1 x1 R1 (wk_list n e z) h1⟩)
  · obtain ⟨a, u, w', rfl, n, e, s1, s2⟩ := r1
    exact .inl ⟨_, _, rfl, .inl (.inl e), q _ _ yes M1 H1 m1 x1 R1 (wk_pr n e s1 s2) h1⟩
  · rename_i i
    obtain ⟨hi, a, ha, rfl⟩ := r1
    split at h1
    · rename_i xs ex
      obtain ⟨us, h3, h4⟩ := R1.cell i a _ ha ex
      exact .inr (.inl ⟨a, _, rfl, .inl (.inl h3), q _ _ _ M1 H1 m1 x1 R1 (wk_mu ha) h1⟩)
    · exact h1.elim
  · exact h1.elim⟩
end
section
variable {X : Cx} {B : Bk} {pos : Pos}
theorem s_par2 {i j : Nat} {st : Stmt} {es : List Expr} {ta : TA} {wl : WL} (ps : PA X es ta → PS X st (tPar i j ta)) (ha : AL X B es ta wl) : AS X B st (tPar i j ta) (wPar [i, j] wl) := ⟨ps ha.pa, ls_par2 ha.la⟩
theorem s_par3 {i j l : Nat} {st : Stmt} {es : List Expr} {ta : TA} {wl : WL} (ps : PA X es ta → PS X st (tPar3 i j l ta)) (ha : AL X B es ta wl) : AS X B st (tPar3 i j l ta) (wPar [i, j, l] wl) := ⟨ps ha.pa, fun N M H σ ρ m F D x0 S R hw f => ha.la N M H σ ρ m _ _ x0 S R hw fun vs ds M1 H1 m1 x1 R1 r1 h1 => by
  obtain ⟨hl, h1⟩ := h1
  cases r1 with
  | nil => cases hl
  | cons r1 rr =>
    cases rr with
    | nil => cases hl
    | cons r2 rr =>
      cases rr with
      | nil => cases hl
      | cons r3 rr =>
        cases rr with
        | nil => exact ⟨_, _, _, rfl, f.nx M1 H1 _ _ m1 x1 ((((S.ext x1).set i r1).set j r2).set l r3) R1 h1⟩
        | cons _ _ => simp at hl⟩
end
end Ab
end

section
set_option maxRecDepth 100000
set_option maxHeartbeats 4000000
/-! Readings over data: comprehensions of two clauses, dict comprehensions. -/
namespace Ab
open PySem PySem.Spec PyProof.Rows L2 Gd
theorem ExtN.trans {N M M1 M2 : List Addr} {H H1 H2 : Hp} (e : ExtN N M H M1 H1) (f : Ext M1 H1 M2 H2) : ExtN N M H M2 H2 := by
  refine ⟨e.pre.trans f.pre, fun b o nb hb => ?_, fun a h1 h2 h3 => ?_⟩
  · refine f.kp b o (fun z => ?_) (e.kp b o nb hb)
    have := e.new b z (fun q => nb (List.mem_append_left _ q)) fun q => nb (List.mem_append_right _ q)
    rw [this] at hb; cases hb
  · by_cases c : a ∈ M1
    · exact e.new a c h2 h3
    · have := f.new a h1 c
      cases q : H a with
      | none => rfl
      | some o =>
        have := e.kp a o (fun y => (List.mem_append.mp y).elim h2 h3) q
        rw [f.new a h1 c] at this; cases this
theorem ExtN.hid {N M M1 : List Addr} {H H1 : Hp} {D : Addr} {o : HO} (hD : D ∈ N) (e : ExtN N M H M1 H1) : ExtN N M H M1 (upd H1 D o) :=
  ⟨e.pre, fun b x nb hb => by rw [upd_ne (fun z : b = D => nb (List.mem_append_right _ (by rw [z]; exact hD)))]; exact e.kp b x nb hb, e.new⟩
theorem ExtN.refl {N M : List Addr} {H : Hp} : ExtN N M H M H := Ext.refl.toN
/-- items added one after another -/
def accI (G : Store → Prop) (f : AV → List AV → Store → (List AV → Store → Prop) → Prop) : List AV → List AV → Store → (List AV → Store → Prop) → Prop
  | [], acc, m, P => G m ∧ P acc m
  | x :: r, acc, m, P => G m ∧ f x acc m fun acc' m' => accI G f r acc' m' P
def accL (n : Nat) (G : Store → Prop) (f : AV → List AV → Store → (List AV → Store → Prop) → Prop) : List AV → List AV → Store → (List AV → Store → Prop) → Prop
  | [], acc, m, P => G m ∧ P acc m
  | x :: r, acc, m, P => G m ∧ f x acc m fun acc' m' => accL n G f r acc' (m'.take n) P
def turnI (n : Nat) (vs1 : List Nat) (wg1 : WG) (wt1 : WT) (we : WE) (ρ2 : Slots) : AV → List AV → Store → (List AV → Store → Prop) → Prop := fun y acc m K => wg1 y (wipeS ρ2 vs1) m fun ρ3 m5 => wt1 ρ3 m5 fun b m6 =>
  if b = true then we ρ3 m6 fun z m7 => z.und n = true ∧ acc.length < sizeLine ∧ K (acc ++ [z]) m7 else K acc m6
def turnO (n : Nat) (vs vs1 : List Nat) (wg : WG) (wt : WT) (wi1 : WI) (wg1 : WG) (wt1 : WT) (we : WE) (ρ : Slots) : AV → List AV → Store → (List AV → Store → Prop) → Prop := fun x acc m K => wg x (wipeS ρ vs) m fun ρ2 m2 => wt ρ2 m2 fun b m3 =>
  if b = true then wi1 ρ2 m3 fun ys G1 m4 => accI G1 (turnI n vs1 wg1 wt1 we ρ2) ys acc m4 K else K acc m3
def wLc2s (vs vs1 : List Nat) (wi : WI) (wg : WG) (wt : WT) (wi1 : WI) (wg1 : WG) (wt1 : WT) (we : WE) (ρ : Slots) (m : Store) (P : List AV → Store → Prop) : Prop := wi ρ m fun xs G m1 => accL m1.length G (turnO m1.length vs vs1 wg wt wi1 wg1 wt1 we ρ) xs [] m1 P
/-- what holds amid such a comprehension: D the list, acc its items -/
structure Mid (N M1 : List Addr) (H1 : Hp) (D : Addr) (σ : L2.St) (ρ : Slots) (M : List Addr) (H : Hp) (m : Store) (acc : List AV) : Prop where
  x : Ext M1 H1 M H
  nD : D ∉ M
  us : ∃ us, H D = some (.lst us) ∧ RVs M1.length (D :: N) M H us acc
  sr : SR (D :: N) M H σ ρ
  rel : Rel (D :: N) M H m
theorem Mid.later {N M1 : List Addr} {H1 : Hp} {D : Addr} {σ σ' : L2.St} {ρ ρ' : Slots} {M M' : List Addr} {H H' : Hp} {m m' : Store} {acc : List AV} (q : Mid N M1 H1 D σ ρ M H m acc) (e : Ext M H M' H') (S : SR (D :: N) M' H' σ' ρ') (R : Rel (D :: N) M' H' m') : Mid N M1 H1 D σ' ρ' M' H' m' acc := by
  obtain ⟨us, h1, h2⟩ := q.us
  have nn : D ∉ M' := fun z => by have := e.new D z q.nD; rw [h1] at this; cases this
  exact ⟨q.x.trans e, nn, ⟨us, e.kp D _ q.nD h1, RVs.ext e h2⟩, S, R⟩
/-- an item more -/
theorem Mid.push {N M1 : List Addr} {H1 : Hp} {D : Addr} {σ : L2.St} {ρ : Slots} {M : List Addr} {H : Hp} {m : Store} {acc : List AV} (q : Mid N M1 H1 D σ ρ M H m acc) (hD : H1 D = none) {v : V} {d : AV} {k : Nat} (r : RV k (D :: N) M H v d) (hu : d.und M1.length = true) {us : List V} (hd : H D = some (.lst us)) :
    Mid N M1 H1 D σ ρ M (upd H D (.lst (us ++ [v]))) m (acc ++ [d]) := by
  obtain ⟨us', h1, h2⟩ := q.us
  rw [hd] at h1
  cases h1
  have hin : D ∈ D :: N := List.mem_cons_self
  refine ⟨⟨q.x.pre, fun b o nb hb => ?_, q.x.new⟩, q.nD, ⟨_, upd_same, pair_app (pair_imp (fun _ _ r => r.hid hin) h2) (.cons ((r.und2 hu).hid hin) .nil)⟩, q.sr.hid hin, q.rel.hid hin q.nD⟩
  rw [upd_ne (fun z : b = D => by rw [z, hD] at hb; cases hb)]
  exact q.x.kp b o nb hb
theorem SR.back {N M1 M : List Addr} {H1 H : Hp} {D : Addr} {σ : L2.St} {ρ : Slots} (S : SR N M1 H1 σ ρ) (e : Ext M1 H1 M1 H) (hD : H1 D = none) : SR (D :: N) M1 H σ ρ :=
  ⟨S.1, fun j d hj => let ⟨v, a1, a2⟩ := S.2 j d hj; ⟨v, a1, RV.seen e.toN (fun b z => List.mem_cons_of_mem _ z) (fun b hb => (List.mem_cons.mp hb).elim (fun z => .inr (by rw [z]; exact hD)) .inl) a2⟩⟩
theorem Mid.cut {N M1 : List Addr} {H1 : Hp} {D : Addr} {σ σ' : L2.St} {ρ ρ' : Slots} {M : List Addr} {H : Hp} {m : Store} {acc : List AV} (q : Mid N M1 H1 D σ' ρ' M H m acc) (hD : H1 D = none) (S : SR N M1 H1 σ ρ) : Mid N M1 H1 D σ ρ M1 H (m.take M1.length) acc := by
  have c := q.x.cut
  have ct := q.x.take
  rw [ct] at c
  obtain ⟨us, h1, h2⟩ := q.us
  refine ⟨c, fun z => q.nD (q.x.sub D z), ⟨us, h1, ?_⟩, S.back (M := M) c hD, ?_⟩
  · have := pair_imp (fun _ _ r => RV.cut (k := M1.length) (Nat.le_refl _) r) h2
    rwa [ct] at this
  · have := q.rel.cut M1.length
    rwa [ct] at this
theorem le_lc2s {B : Bk} {wi wi1 : TI} {g g1 : TG} {tt tt1 : TT} {te : TE} {vs vs1 : List Nat} {w w1 : WI} {wg wg1 : WG} {wt wt1 : WT} {we : WE} (hi : LI B wi w) (hg : LG B g wg) (ho : Own g vs) (hgm : GMono g) (ht : LT B tt wt)
    (hi1 : LI B wi1 w1) (hg1 : LG B g1 wg1) (ho1 : Own g1 vs1) (hgm1 : GMono g1) (ht1 : LT B tt1 wt1) (he : LE B te we)
    {N M : List Addr} {H : Hp} {σ : L2.St} {ρ : Slots} {m : Store} {P : List AV → Store → Prop} {Q : VK} (x0 : B.Ok N M H) (S : SR N M H σ ρ) (R : Rel N M H m) (h : wLc2s vs vs1 w wg wt w1 wg1 wt1 we ρ m P)
    (q : ∀ D us ys M' H' m', Ext M H M' H' → H D = none → D ∉ M' → D ∉ N → H' D = some (.lst us) → Rel (D :: N) M' H' m' → RVs M'.length (D :: N) M' H' us ys → P ys m' → Q (.ref D) H') : tLc2 wi g tt wi1 g1 tt1 te vs vs1 σ H Q := by
  refine hi N M H σ ρ m _ _ x0 S R h fun J xs G M1 H1 m1 x1 R1 wk h1 => fun D hD => ?_
  have S1 := S.ext x1
  have nDN : D ∉ N := fun z => by obtain ⟨o, e⟩ := R1.there D z; rw [hD] at e; cases e
  have old : ∀ b ∈ D :: N, b ∈ N ∨ H1 b = none := fun b hb => (List.mem_cons.mp hb).elim (fun z => .inr (by rw [z]; exact hD)) .inl
  refine ⟨fun i k H' => k = xs.length - i ∧ i ≤ xs.length ∧ ∃ m' acc, Mid N M1 H1 D σ ρ M1 H' m' acc ∧ accL m1.length G (turnO m1.length vs vs1 wg wt w1 wg1 wt1 we ρ) (xs.drop i) acc m' P,
    ⟨_, rfl, Nat.zero_le _, m1, [], ⟨.alloc hD, R1.liveM.fresh hD, ⟨[], upd_same, .nil⟩, S1.hide hD, R1.hide hD⟩, by simpa using h1⟩, ?_⟩
  rintro i k H' ⟨rfl, hi', m', acc, mid, h2⟩
  by_cases hlt : i < xs.length
  · rw [List.drop_eq_getElem_cons hlt] at h2
    obtain ⟨g0, h2⟩ := h2
    refine .inr ⟨wk.goes i (D :: N) M1 H' m' hlt mid.x.toN mid.rel g0, fun H3 => ∃ σ3 ρ3 M3 m3 acc3, Mid N M1 H1 D σ3 ρ3 M3 H3 m3 acc3 ∧ accL m1.length G (turnO m1.length vs vs1 wg wt w1 wg1 wt1 we ρ) (xs.drop (i + 1)) acc3 (m3.take m1.length) P, ?_, ?_⟩
    · rintro H3 ⟨σ3, ρ3, M3, m3, acc3, mid3, h3⟩
      refine ⟨xs.length - (i + 1), by omega, rfl, hlt, _, acc3, mid3.cut hD S1, ?_⟩
      rw [R1.len]; exact h3
    · intro x H3 y
      obtain ⟨k3, rx⟩ := wk.yields i x xs[i] (D :: N) M1 H' H3 m' (List.getElem?_eq_getElem hlt) (fun _ z => List.mem_cons_of_mem _ z) mid.x.toN old mid.rel g0 y
      obtain ⟨R3, x3⟩ := mid.rel.kept k3
      have b0 : B.Ok (D :: N) M1 H3 := (((x0.trans x1).trans mid.x).trans x3).hide D
      refine hgm _ _ _ _ _ (ho _ _ _ _ (hg (D :: N) M1 H3 (wipe σ vs) (wipeS ρ vs) m' x _ _ (fun σ2 H2 => ∃ ρ2 M2 m2, Ext M1 H3 M2 H2 ∧ SR (D :: N) M2 H2 σ2 ρ2 ∧ Rel (D :: N) M2 H2 m2 ∧ wt ρ2 m2 fun b m3 =>
        if b = true then w1 ρ2 m3 fun ys G1 m4 => accI G1 (turnI m1.length vs1 wg1 wt1 we ρ2) ys acc m4 fun acc' m' => accL m1.length G (turnO m1.length vs vs1 wg wt w1 wg1 wt1 we ρ) (xs.drop (i + 1)) acc' (m'.take m1.length) P else accL m1.length G (turnO m1.length vs vs1 wg wt w1 wg1 wt1 we ρ) (xs.drop (i + 1)) acc (m3.take m1.length) P)
          b0 ((mid.sr.ext x3).wipe vs) R3 rx h2 fun M2 H2 σ2 ρ2 m2 x2 S2 R2 h => ⟨ρ2, M2, m2, x2, S2, R2, h⟩)) fun σ2 H2 ⟨e2, ρ2, M2, m2, x2, S2, R2, h4⟩ => ⟨e2.trans (wipe_wipe σ vs), ?_⟩
      have mid2 : Mid N M1 H1 D σ2 ρ2 M2 H2 m2 acc := mid.later (x3.trans x2) S2 R2
      refine ht (D :: N) M2 H2 σ2 ρ2 m2 _ _ (b0.trans x2) S2 R2 h4 fun b M5 H5 m5 x5 R5 h5 => ?_
      have mid5 := mid2.later x5 (S2.ext x5) R5
      have b5 := (b0.trans x2).trans x5
      cases b with
      | false => exact ⟨σ2, ρ2, M5, m5, acc, mid5, h5⟩
      | true =>
        simp only [if_true] at h5 ⊢
        refine hi1 (D :: N) M5 H5 σ2 ρ2 m5 _ _ b5 (S2.ext x5) R5 h5 fun J1 ys G1 M6 H6 m6 x6 R6 wk1 h6 => ?_
        have mid6 := mid5.later x6 ((S2.ext x5).ext x6) R6
        have b6 := b5.trans x6
        refine ⟨fun j k H' => k = ys.length - j ∧ j ≤ ys.length ∧ ∃ M' m' acc', Mid N M1 H1 D σ2 ρ2 M' H' m' acc' ∧ ExtN (D :: N) M6 H6 M' H' ∧ accI G1 (turnI m1.length vs1 wg1 wt1 we ρ2) (ys.drop j) acc' m' fun acc' m' => accL m1.length G (turnO m1.length vs vs1 wg wt w1 wg1 wt1 we ρ) (xs.drop (i + 1)) acc' (m'.take m1.length) P,
          ⟨_, rfl, Nat.zero_le _, M6, m6, acc, mid6, .refl, by simpa using h6⟩, ?_⟩
        rintro j k H7 ⟨rfl, hj, M7, m7, acc7, mid7, x7, h7⟩
        by_cases hlt1 : j < ys.length
        · rw [List.drop_eq_getElem_cons hlt1] at h7
          obtain ⟨g7, h7⟩ := h7
          refine .inr ⟨wk1.goes j (D :: N) M7 H7 m7 hlt1 x7 mid7.rel g7, fun H8 => ∃ M8 m8 acc8, Mid N M1 H1 D σ2 ρ2 M8 H8 m8 acc8 ∧ ExtN (D :: N) M6 H6 M8 H8 ∧ accI G1 (turnI m1.length vs1 wg1 wt1 we ρ2) (ys.drop (j + 1)) acc8 m8 fun acc' m' => accL m1.length G (turnO m1.length vs vs1 wg wt w1 wg1 wt1 we ρ) (xs.drop (i + 1)) acc' (m'.take m1.length) P, ?_, ?_⟩
          · rintro H8 ⟨M8, m8, acc8, mid8, x8, h8⟩
            exact ⟨ys.length - (j + 1), by omega, rfl, hlt1, M8, m8, acc8, mid8, x8, h8⟩
          · intro z H8 yz
            obtain ⟨k8, rz⟩ := wk1.yields j z ys[j] (D :: N) M7 H7 H8 m7 (List.getElem?_eq_getElem hlt1) (fun _ z => z) x7 (fun b z => .inl z) mid7.rel g7 yz
            obtain ⟨R8, x8⟩ := mid7.rel.kept k8
            have mid8 := mid7.later x8 (mid7.sr.ext x8) R8
            have b8 : B.Ok (D :: N) M7 H8 := ((x0.trans x1).trans mid8.x).hide D
            refine hgm1 _ _ _ _ _ (ho1 _ _ _ _ (hg1 (D :: N) M7 H8 (wipe σ2 vs1) (wipeS ρ2 vs1) m7 z _ _ (fun σ9 H9 => ∃ ρ9 M9 m9, Ext M7 H8 M9 H9 ∧ SR (D :: N) M9 H9 σ9 ρ9 ∧ Rel (D :: N) M9 H9 m9 ∧ wt1 ρ9 m9 fun b m10 =>
                if b = true then we ρ9 m10 fun z m11 => z.und m1.length = true ∧ acc7.length < sizeLine ∧ accI G1 (turnI m1.length vs1 wg1 wt1 we ρ2) (ys.drop (j + 1)) (acc7 ++ [z]) m11 fun acc' m' => accL m1.length G (turnO m1.length vs vs1 wg wt w1 wg1 wt1 we ρ) (xs.drop (i + 1)) acc' (m'.take m1.length) P
                else accI G1 (turnI m1.length vs1 wg1 wt1 we ρ2) (ys.drop (j + 1)) acc7 m10 fun acc' m' => accL m1.length G (turnO m1.length vs vs1 wg wt w1 wg1 wt1 we ρ) (xs.drop (i + 1)) acc' (m'.take m1.length) P)
              b8 ((mid8.sr).wipe vs1) R8 rz h7 fun M9 H9 σ9 ρ9 m9 x9 S9 R9 h => ⟨ρ9, M9, m9, x9, S9, R9, h⟩)) fun σ9 H9 ⟨e9, ρ9, M9, m9, x9, S9, R9, h9⟩ => ⟨e9.trans (wipe_wipe σ2 vs1), ?_⟩
            refine ht1 (D :: N) M9 H9 σ9 ρ9 m9 _ _ (b8.trans x9) S9 R9 h9 fun b MA HA mA xA RA hA => ?_
            have xn : ExtN (D :: N) M6 H6 MA HA := ((x7.trans x8).trans x9).trans xA
            have midA := mid8.later (x9.trans xA) ((mid8.sr.ext x9).ext xA) RA
            cases b with
            | false => exact ⟨MA, mA, acc7, midA, xn, hA⟩
            | true =>
              simp only [if_true] at hA ⊢
              refine he (D :: N) MA HA σ9 ρ9 mA _ _ ((b8.trans x9).trans xA) (S9.ext xA) RA hA fun v d MB HB mB xB RB rB hB => ?_
              obtain ⟨hu, hl, hB⟩ := hB
              have midB := midA.later xB (midA.sr.ext xB) RB
              obtain ⟨us, e1, e2⟩ := midB.us
              rw [← R1.len] at hu
              exact ⟨us, e1, by rw [pair_len e2]; exact hl, MB, mB, acc7 ++ [d], midB.push hD rB hu e1, (xn.trans xB).hid List.mem_cons_self, hB⟩
        · have e : j = ys.length := by omega
          subst e
          rw [List.drop_length] at h7
          exact .inl ⟨wk1.stops (D :: N) M7 H7 m7 x7 mid7.rel h7.1, σ2, ρ2, M7, m7, acc7, mid7, h7.2⟩
  · have e : i = xs.length := by omega
    subst e
    rw [List.drop_length] at h2
    obtain ⟨us, e1, e2⟩ := mid.us
    exact .inl ⟨wk.stops (D :: N) M1 H' m' mid.x.toN mid.rel h2.1, q D us acc M1 H' m' (x1.trans mid.x) (x1.none (fun z => R1.liveM.fresh hD (x1.sub D z)) hD) mid.nD nDN e1 mid.rel e2 h2.2⟩
def wLc2 (vs vs1 : List Nat) (wi : WI) (wg : WG) (wt : WT) (wi1 : WI) (wg1 : WG) (wt1 : WT) (we : WE) : WE := fun ρ m P => wLc2s vs vs1 wi wg wt wi1 wg1 wt1 we ρ m fun ys m1 => match ims ys with | some xs => P (.wl xs) m1 | none => False
section
variable {X : Cx} {B : Bk} {elt tg iter tg1 iter1 : Expr} {ifs ifs1 : List Expr} {scope : Scope} {own : List (Str × Nat)} {vs1 : List Nat} {pos spos : Pos} {wi wi1 : TI} {g g1 : TG} {tt tt1 : TT} {te : TE} {w w1 : WI} {wg wg1 : WG} {wt wt1 : WT} {we : WE}
theorem ae_lc2 (hc : X.calm = true) (hN : X.N.Nodup) (hi : AI X B tg iter wi w) (ok : BlkOk X.N X.env.scope scope own) (hv : ∀ i ∈ vs1, i ∈ own.map (·.2))
    (hg : ∀ (s : Shared) (H : Hp) (C : Addr) (cl : List (Str × Addr)) (fp : List Addr), AG (X.blk s H scope (compEnvC scope cl C X.env) fp) B tg g wg) (ho : Own g (own.map (·.2))) (hgm : GMono g)
    (ht : ∀ (s : Shared) (H : Hp) (C : Addr) (cl : List (Str × Addr)) (fp : List Addr), ATs (X.blk s H scope (compEnvC scope cl C X.env) fp) B ifs tt wt)
    (hi1 : ∀ (s : Shared) (H : Hp) (C : Addr) (cl : List (Str × Addr)) (fp : List Addr), AI (X.blk s H scope (compEnvC scope cl C X.env) fp) B tg1 iter1 wi1 w1)
    (hg1 : ∀ (s : Shared) (H : Hp) (C : Addr) (cl : List (Str × Addr)) (fp : List Addr), AG (X.blk s H scope (compEnvC scope cl C X.env) fp) B tg1 g1 wg1) (ho1 : Own g1 vs1) (hgm1 : GMono g1)
    (ht1 : ∀ (s : Shared) (H : Hp) (C : Addr) (cl : List (Str × Addr)) (fp : List Addr), ATs (X.blk s H scope (compEnvC scope cl C X.env) fp) B ifs1 tt1 wt1)
    (he : ∀ (s : Shared) (H : Hp) (C : Addr) (cl : List (Str × Addr)) (fp : List Addr), AE (X.blk s H scope (compEnvC scope cl C X.env) fp) B elt te we) (hs : ∀ x, foldedSetIterable iter X.env x = pure x := by intro _; rfl) (hs1 : ∀ env x, foldedSetIterable iter1 env x = pure x := by intro _ _; rfl) :
    AE X B (.ListComp elt [⟨tg, iter, ifs, 0⟩, ⟨tg1, iter1, ifs1, 0⟩] scope pos) (tLc2 wi g tt wi1 g1 tt1 te (own.map (·.2)) vs1) (wLc2 (own.map (·.2)) vs1 w wg wt w1 wg1 wt1 we) :=
  ⟨pe_lc2 hc hN hi.pi ok hv (fun s H C cl fp => (hg s H C cl fp).pg) (fun s H C cl fp => (ht s H C cl fp).pt) (fun s H C cl fp => (hi1 s H C cl fp).pi) (fun s H C cl fp => (hg1 s H C cl fp).pg) (fun s H C cl fp => (ht1 s H C cl fp).pt) (fun s H C cl fp => (he s H C cl fp).pe) hs hs1,
    fun N M H σ ρ m P Q x0 S R h q => le_lc2s hi.li (hg X.s_0 X.H_0 X.env.locals [] []).lg ho hgm (ht X.s_0 X.H_0 X.env.locals [] []).lt (hi1 X.s_0 X.H_0 X.env.locals [] []).li (hg1 X.s_0 X.H_0 X.env.locals [] []).lg ho1 hgm1 (ht1 X.s_0 X.H_0 X.env.locals [] []).lt (he X.s_0 X.H_0 X.env.locals [] []).le x0 S R h fun D us ys M' H' m' x nD nM nN eD R' r p => by
      split at p
      · rename_i xs e
        have rr := ims_of r e
        exact q _ (.wl xs) M' H' m' x R'.less ⟨D, us, rfl, fun z => (List.mem_append.mp z).elim nM nN, eD, rr.less fun b z => (List.mem_append.mp z).elim (List.mem_append_left _) fun z => List.mem_append_right _ (List.mem_cons_of_mem _ z)⟩ p
      · exact p.elim⟩
end
end Ab
end

section
set_option maxRecDepth 100000
set_option maxHeartbeats 4000000
/-! Readings over data: dict comprehensions. -/
namespace Ab
open PySem PySem.Spec PyProof.Rows L2 Gd
/-- what was hidden becomes the newest that may change -/
theorem unhide {N M M' : List Addr} {H H' : Hp} {m' : Store} {D : Addr} {c : Cell} (R' : Rel (D :: N) M' H' m') (nM : D ∉ M') (x : Ext M H M' H') (nD : H D = none) (rc : RC M'.length (D :: N) M' H' D c) :
    Ext M H (M' ++ [D]) H' ∧ Rel N (M' ++ [D]) H' (m' ++ [c]) ∧ RV (M' ++ [D]).length N (M' ++ [D]) H' (.ref D) (.mu m'.length) := by
  have x2 : Ext M H (M' ++ [D]) H' := by
    refine ⟨x.pre.trans (List.prefix_append _ _), fun b o nb hb => x.kp b o nb hb, fun b h1 h2 => ?_⟩
    rcases List.mem_append.mp h1 with h1 | h1
    · exact x.new b h1 h2
    · rw [List.mem_singleton.mp h1]; exact nD
  have sub : ∀ b, b ∈ (M' ++ [D]) ++ N → b ∈ M' ++ D :: N := fun b z => by
    simp only [List.mem_append, List.mem_cons, List.mem_singleton, List.not_mem_nil, or_false] at z ⊢
    rcases z with (z | z) | z
    · exact .inl z
    · exact .inr (.inl z)
    · exact .inr (.inr z)
  have mv : ∀ {k : Nat} {v : V} {d : AV}, RV k (D :: N) M' H' v d → RV k N (M' ++ [D]) H' v d := fun {k v d} r => by
    induction d generalizing v with
    | im d => exact Gd.Rep.less sub r
    | mu i => obtain ⟨h, a, h1, h2⟩ := r; exact ⟨h, a, by rw [List.getElem?_append_left (List.getElem?_eq_some_iff.mp h1).1]; exact h1, h2⟩
    | pr p q i1 i2 => obtain ⟨b, s, t, h1, h2, h3, r1, r2⟩ := r; exact ⟨b, s, t, h1, fun z => h2 (sub b z), h3, i1 r1, i2 r2⟩
    | wl xs => obtain ⟨b, us, h1, h2, h3, r⟩ := r; exact ⟨b, us, h1, fun z => h2 (sub b z), h3, Gd.Reps.less sub r⟩
  refine ⟨x2, ⟨nodup_snoc R'.nd nM, by simp [R'.len], fun i a c' h1 h2 => ?_, fun a ha => R'.there a (List.mem_cons_of_mem _ ha)⟩, ⟨by simp [R'.len], D, by rw [← R'.len]; simp, rfl⟩⟩
  rcases getD_snoc h1 with g1 | ⟨g1, g2⟩
  · rcases getD_snoc h2 with g3 | ⟨g3, g4⟩
    · exact (R'.cell i a c' g1 g3).map (a' := a) (fun _ _ r => mv r) fun _ z => z
    · have := (List.getElem?_eq_some_iff.mp g1).1
      rw [R'.len] at this; omega
  · rcases getD_snoc h2 with g3 | ⟨g3, g4⟩
    · have := (List.getElem?_eq_some_iff.mp g3).1
      rw [R'.len] at g1; omega
    · subst g2 g4
      rw [g1]
      exact rc.map (a' := a) (fun _ _ r => mv r) fun _ z => z
def accD (n : Nat) (G : Store → Prop) (f : AV → List (Key × AV) → Store → (List (Key × AV) → Store → Prop) → Prop) : List AV → List (Key × AV) → Store → (List (Key × AV) → Store → Prop) → Prop
  | [], acc, m, P => G m ∧ P acc m
  | x :: r, acc, m, P => G m ∧ f x acc m fun acc' m' => accD n G f r acc' (m'.take n) P
def turnD (n : Nat) (vs : List Nat) (wg : WG) (wt : WT) (wk wv : WE) (ρ : Slots) : AV → List (Key × AV) → Store → (List (Key × AV) → Store → Prop) → Prop := fun x acc m K => wg x (wipeS ρ vs) m fun ρ2 m2 => wt ρ2 m2 fun b m3 =>
  if b = true then wk ρ2 m3 fun y m4 => wv ρ2 m4 fun z m5 => z.und n = true ∧ acc.length < sizeLine ∧ (match y with | .im y => (match keyA y with | some k => K (putA acc k z) m5 | none => False) | _ => False) else K acc m3
def wDc (vs : List Nat) (wi : WI) (wg : WG) (wt : WT) (wk wv : WE) : WE := fun ρ m P => wi ρ m fun xs G m1 => accD m1.length G (turnD m1.length vs wg wt wk wv ρ) xs [] m1 fun kvs m2 => P (.mu m2.length) (m2 ++ [.dk kvs])
structure MidD (N M1 : List Addr) (H1 : Hp) (D : Addr) (σ : L2.St) (ρ : Slots) (M : List Addr) (H : Hp) (m : Store) (acc : List (Key × AV)) : Prop where
  x : Ext M1 H1 M H
  nD : D ∉ M
  us : ∃ us, H D = some (.dK us) ∧ RKs M1.length (D :: N) M H us acc
  sr : SR (D :: N) M H σ ρ
  rel : Rel (D :: N) M H m
theorem MidD.later {N M1 : List Addr} {H1 : Hp} {D : Addr} {σ σ' : L2.St} {ρ ρ' : Slots} {M M' : List Addr} {H H' : Hp} {m m' : Store} {acc : List (Key × AV)} (q : MidD N M1 H1 D σ ρ M H m acc) (e : Ext M H M' H') (S : SR (D :: N) M' H' σ' ρ') (R : Rel (D :: N) M' H' m') : MidD N M1 H1 D σ' ρ' M' H' m' acc := by
  obtain ⟨us, h1, h2⟩ := q.us
  have nn : D ∉ M' := fun z => by have := e.new D z q.nD; rw [h1] at this; cases this
  exact ⟨q.x.trans e, nn, ⟨us, e.kp D _ q.nD h1, pair_imp (fun _ _ r => ⟨r.1, r.2.ext e⟩) h2⟩, S, R⟩
theorem MidD.cut {N M1 : List Addr} {H1 : Hp} {D : Addr} {σ σ' : L2.St} {ρ ρ' : Slots} {M : List Addr} {H : Hp} {m : Store} {acc : List (Key × AV)} (q : MidD N M1 H1 D σ' ρ' M H m acc) (hD : H1 D = none) (S : SR N M1 H1 σ ρ) : MidD N M1 H1 D σ ρ M1 H (m.take M1.length) acc := by
  have c := q.x.cut
  have ct := q.x.take
  rw [ct] at c
  obtain ⟨us, h1, h2⟩ := q.us
  refine ⟨c, fun z => q.nD (q.x.sub D z), ⟨us, h1, ?_⟩, S.back (M := M) c hD, ?_⟩
  · have := pair_imp (fun (p : Key × V) (q : Key × AV) (r : p.1 = q.1 ∧ RV M1.length (D :: N) M H p.2 q.2) => (⟨r.1, RV.cut (k := M1.length) (Nat.le_refl _) r.2⟩ : p.1 = q.1 ∧ RV M1.length (D :: N) (M.take M1.length) H p.2 q.2)) h2
    rwa [ct] at this
  · have := q.rel.cut M1.length
    rwa [ct] at this
theorem le_dc {B : Bk} {wi : TI} {g : TG} {tt : TT} {tk tv : TE} {vs : List Nat} {w : WI} {wg : WG} {wt : WT} {wk wv : WE} (hi : LI B wi w) (hg : LG B g wg) (ho : Own g vs) (hgm : GMono g) (ht : LT B tt wt) (hk : LE B tk wk) (hv : LE B tv wv) : LE B (tDc wi g tt tk tv vs) (wDc vs w wg wt wk wv) := fun N M H σ ρ m P Q x0 S R h q => by
  refine hi N M H σ ρ m _ _ x0 S R h fun J xs G M1 H1 m1 x1 R1 walk h1 => fun D hD => ?_
  have S1 := S.ext x1
  have nDN : D ∉ N := fun z => by obtain ⟨o, e⟩ := R1.there D z; rw [hD] at e; cases e
  have old : ∀ b ∈ D :: N, b ∈ N ∨ H1 b = none := fun b hb => (List.mem_cons.mp hb).elim (fun z => .inr (by rw [z]; exact hD)) .inl
  refine ⟨fun i k H' => k = xs.length - i ∧ i ≤ xs.length ∧ ∃ m' acc, MidD N M1 H1 D σ ρ M1 H' m' acc ∧ accD m1.length G (turnD m1.length vs wg wt wk wv ρ) (xs.drop i) acc m' fun kvs m2 => P (.mu m2.length) (m2 ++ [.dk kvs]),
    ⟨_, rfl, Nat.zero_le _, m1, [], ⟨.alloc hD, R1.liveM.fresh hD, ⟨[], upd_same, .nil⟩, S1.hide hD, R1.hide hD⟩, by simpa using h1⟩, ?_⟩
  rintro i k H' ⟨rfl, hi', m', acc, mid, h2⟩
  by_cases hlt : i < xs.length
  · rw [List.drop_eq_getElem_cons hlt] at h2
    obtain ⟨g0, h2⟩ := h2
    refine .inr ⟨walk.goes i (D :: N) M1 H' m' hlt mid.x.toN mid.rel g0, fun H3 => ∃ σ3 ρ3 M3 m3 acc3, MidD N M1 H1 D σ3 ρ3 M3 H3 m3 acc3 ∧ accD m1.length G (turnD m1.length vs wg wt wk wv ρ) (xs.drop (i + 1)) acc3 (m3.take m1.length) fun kvs m2 => P (.mu m2.length) (m2 ++ [.dk kvs]), ?_, ?_⟩
    · rintro H3 ⟨σ3, ρ3, M3, m3, acc3, mid3, h3⟩
      refine ⟨xs.length - (i + 1), by omega, rfl, hlt, _, acc3, mid3.cut hD S1, ?_⟩
      rw [R1.len]; exact h3
    · intro x H3 y
      obtain ⟨k3, rx⟩ := walk.yields i x xs[i] (D :: N) M1 H' H3 m' (List.getElem?_eq_getElem hlt) (fun _ z => List.mem_cons_of_mem _ z) mid.x.toN old mid.rel g0 y
      obtain ⟨R3, x3⟩ := mid.rel.kept k3
      have b0 : B.Ok (D :: N) M1 H3 := (((x0.trans x1).trans mid.x).trans x3).hide D
      refine hgm _ _ _ _ _ (ho _ _ _ _ (hg (D :: N) M1 H3 (wipe σ vs) (wipeS ρ vs) m' x _ _ (fun σ2 H2 => ∃ ρ2 M2 m2, Ext M1 H3 M2 H2 ∧ SR (D :: N) M2 H2 σ2 ρ2 ∧ Rel (D :: N) M2 H2 m2 ∧ wt ρ2 m2 fun b m3 =>
          if b = true then wk ρ2 m3 fun y m4 => wv ρ2 m4 fun z m5 => z.und m1.length = true ∧ acc.length < sizeLine ∧ (match y with | .im y => (match keyA y with | some k => accD m1.length G (turnD m1.length vs wg wt wk wv ρ) (xs.drop (i + 1)) (putA acc k z) (m5.take m1.length) fun kvs m2 => P (.mu m2.length) (m2 ++ [.dk kvs]) | none => False) | _ => False)
          else accD m1.length G (turnD m1.length vs wg wt wk wv ρ) (xs.drop (i + 1)) acc (m3.take m1.length) fun kvs m2 => P (.mu m2.length) (m2 ++ [.dk kvs]))
          b0 ((mid.sr.ext x3).wipe vs) R3 rx h2 fun M2 H2 σ2 ρ2 m2 x2 S2 R2 h => ⟨ρ2, M2, m2, x2, S2, R2, h⟩)) fun σ2 H2 ⟨e2, ρ2, M2, m2, x2, S2, R2, h4⟩ => ⟨e2.trans (wipe_wipe σ vs), ?_⟩
      have mid2 : MidD N M1 H1 D σ2 ρ2 M2 H2 m2 acc := mid.later (x3.trans x2) S2 R2
      refine ht (D :: N) M2 H2 σ2 ρ2 m2 _ _ (b0.trans x2) S2 R2 h4 fun b M5 H5 m5 x5 R5 h5 => ?_
      have mid5 := mid2.later x5 (S2.ext x5) R5
      have b5 := (b0.trans x2).trans x5
      cases b with
      | false => exact ⟨σ2, ρ2, M5, m5, acc, mid5, h5⟩
      | true =>
        simp only [if_true] at h5 ⊢
        refine hk (D :: N) M5 H5 σ2 ρ2 m5 _ _ b5 (S2.ext x5) R5 h5 fun vk dk M6 H6 m6 x6 R6 r6 h6 => ?_
        refine hv (D :: N) M6 H6 σ2 ρ2 m6 _ _ (b5.trans x6) ((S2.ext x5).ext x6) R6 h6 fun vv dv M7 H7 m7 x7 R7 r7 h7 => ?_
        obtain ⟨hu, hl, h7⟩ := h7
        have mid7 := mid5.later (x6.trans x7) (((S2.ext x5).ext x6).ext x7) R7
        obtain ⟨us, e1, e2⟩ := mid7.us
        split at h7
        · rename_i y
          split at h7
          · rename_i kk ek
            have hin : D ∈ D :: N := List.mem_cons_self
            rw [← R1.len] at hu
            refine ⟨us, kk, key_rep r6 ek, e1, by rw [pair_len e2]; exact hl, σ2, ρ2, M7, m7, putA acc kk dv, ⟨⟨mid7.x.pre, fun b o nb hb => ?_, mid7.x.new⟩, mid7.nD, ⟨_, upd_same, pair_imp (fun _ _ r => ⟨r.1, r.2.hid hin⟩) (put_of kk e2 (r7.und2 hu))⟩, mid7.sr.hid hin, mid7.rel.hid hin mid7.nD⟩, h7⟩
            rw [upd_ne (fun z : b = D => by rw [z, hD] at hb; cases hb)]
            exact mid7.x.kp b o nb hb
          · exact h7.elim
        · exact h7.elim
  · have e : i = xs.length := by omega
    subst e
    rw [List.drop_length] at h2
    obtain ⟨us, e1, e2⟩ := mid.us
    obtain ⟨a, b, c⟩ := unhide (c := .dk acc) mid.rel mid.nD (x1.trans mid.x) (x1.none (fun z => R1.liveM.fresh hD (x1.sub D z)) hD) ⟨us, e1, e2⟩
    exact .inl ⟨walk.stops (D :: N) M1 H' m' mid.x.toN mid.rel h2.1, q _ (.mu m'.length) _ _ _ a b c h2.2⟩
section
variable {X : Cx} {B : Bk} {kx vx tg iter : Expr} {ifs : List Expr} {scope : Scope} {own : List (Str × Nat)} {pos : Pos} {wi : TI} {g : TG} {tt : TT} {tk tv : TE} {w : WI} {wg : WG} {wt : WT} {wk wv : WE}
theorem ae_dc (hc : X.calm = true) (hN : X.N.Nodup) (hi : AI X B tg iter wi w) (ok : BlkOk X.N X.env.scope scope own)
    (hg : ∀ (s : Shared) (H : Hp) (C : Addr) (cl : List (Str × Addr)) (fp : List Addr), AG (X.blk s H scope (compEnvC scope cl C X.env) fp) B tg g wg) (ho : Own g (own.map (·.2))) (hgm : GMono g)
    (ht : ∀ (s : Shared) (H : Hp) (C : Addr) (cl : List (Str × Addr)) (fp : List Addr), ATs (X.blk s H scope (compEnvC scope cl C X.env) fp) B ifs tt wt)
    (hk : ∀ (s : Shared) (H : Hp) (C : Addr) (cl : List (Str × Addr)) (fp : List Addr), AE (X.blk s H scope (compEnvC scope cl C X.env) fp) B kx tk wk)
    (he : ∀ (s : Shared) (H : Hp) (C : Addr) (cl : List (Str × Addr)) (fp : List Addr), AE (X.blk s H scope (compEnvC scope cl C X.env) fp) B vx tv wv) (hs : ∀ x, foldedSetIterable iter X.env x = pure x := by intro _; rfl) :
    AE X B (.DictComp kx vx [⟨tg, iter, ifs, 0⟩] scope pos) (tDc wi g tt tk tv (own.map (·.2))) (wDc (own.map (·.2)) w wg wt wk wv) :=
  ⟨pe_dc hc hN hi.pi ok (fun s H C cl fp => (hg s H C cl fp).pg) (fun s H C cl fp => (ht s H C cl fp).pt) (fun s H C cl fp => (hk s H C cl fp).pe) (fun s H C cl fp => (he s H C cl fp).pe) hs,
    le_dc hi.li (hg X.s_0 X.H_0 X.env.locals [] []).lg ho hgm (ht X.s_0 X.H_0 X.env.locals [] []).lt (hk X.s_0 X.H_0 X.env.locals [] []).le (he X.s_0 X.H_0 X.env.locals [] []).le⟩
end
end Ab
end

section
set_option maxRecDepth 100000
set_option maxHeartbeats 4000000
/-! Readings over data: walks that change nothing, walks by an invariant. -/
namespace Ab
open PySem PySem.Spec PyProof.Rows L2 Gd
/-- a comprehension whose turns change nothing -/
theorem lc_map {α : Type} {n : Nat} {G : Store → Prop} {f : AV → Store → (Option AV → Store → Prop) → Prop} {m : Store} {P : List AV → Store → Prop} (l : List α) (j : α → AV) (g : α → Option AV) (hG : G m) (hn : m.length ≤ n)
    (hf : ∀ a ∈ l, ∀ Kt : Option AV → Store → Prop, Kt (g a) m → f (j a) m Kt) (hu : ∀ a ∈ l, ∀ z, g a = some z → z.und n = true) (hP : P (l.filterMap g) m) : lcL n G f (l.map j) m P := by
  induction l generalizing P with
  | nil => exact ⟨hG, hP⟩
  | cons a r ih =>
    refine ⟨hG, hf a List.mem_cons_self _ ⟨hu a List.mem_cons_self, ?_⟩⟩
    rw [List.take_of_length_le hn]
    refine ih (fun b hb => hf b (List.mem_cons_of_mem _ hb)) (fun b hb => hu b (List.mem_cons_of_mem _ hb)) ?_
    rw [List.filterMap_cons] at hP
    cases h : g a with
    | none => rw [h] at hP; exact hP
    | some z => rw [h] at hP; exact hP
theorem putA_new {κ : Type} [DecidableEq κ] {β : Type} {kvs : List (κ × β)} {k : κ} {v : β} (h : k ∉ kvs.map (·.1)) : putA kvs k v = kvs ++ [(k, v)] := by
  unfold putA
  rw [if_neg]
  intro c
  rw [List.any_eq_true] at c
  obtain ⟨x, hx, e⟩ := c
  exact h (List.mem_map.mpr ⟨x, hx, of_decide_eq_true e⟩)
/-- a dict comprehension whose turns change nothing, its keys all different -/
theorem dc_map {α : Type} {n : Nat} {G : Store → Prop} {f : AV → List (Key × AV) → Store → (List (Key × AV) → Store → Prop) → Prop} {m : Store} {P : List (Key × AV) → Store → Prop} (l : List α) (j : α → AV) (k : α → Key) (v : α → AV) (hG : G m) (hn : m.length ≤ n)
    (nd : (l.map k).Nodup) (hf : ∀ a ∈ l, ∀ (acc : List (Key × AV)) (Kt : List (Key × AV) → Store → Prop), acc.length ≤ l.length → Kt (putA acc (k a) (v a)) m → f (j a) acc m Kt) (hP : P (l.map fun a => (k a, v a)) m) : accD n G f (l.map j) [] m P := by
  have go : ∀ (r d : List α), l = d ++ r → accD n G f (r.map j) (d.map fun a => (k a, v a)) m P := by
    intro r
    induction r with
    | nil => intro d e; rw [List.append_nil] at e; subst e; exact ⟨hG, hP⟩
    | cons a r ih =>
      intro d e
      have ha : a ∈ l := by rw [e]; simp
      refine ⟨hG, hf a ha _ _ (by rw [e]; simp) ?_⟩
      rw [List.take_of_length_le hn]
      have nk : k a ∉ (d.map fun a => (k a, v a)).map (·.1) := by
        rw [e, List.map_append, List.map_cons] at nd
        rw [List.map_map]
        intro z
        have z' : k a ∈ d.map k := by simpa using z
        exact (List.nodup_append.mp nd).2.2 _ z' _ List.mem_cons_self rfl
      rw [putA_new nk]
      have := ih (d ++ [a]) (by rw [e]; simp)
      rwa [List.map_append] at this
  exact go l [] rfl
/-- two clauses whose turns change nothing -/
theorem lc2_map {α : Type} {n : Nat} {G : Store → Prop} {f : AV → List AV → Store → (List AV → Store → Prop) → Prop} {m : Store} {P : List AV → Store → Prop} (l : List α) (j : α → AV) (g : α → List AV) (hG : G m) (hn : m.length ≤ n) (B : Nat) (hb : (l.flatMap g).length ≤ B)
    (hf : ∀ a ∈ l, ∀ (acc : List AV) (Kt : List AV → Store → Prop), acc.length + (g a).length ≤ B → Kt (acc ++ g a) m → f (j a) acc m Kt) (hP : P (l.flatMap g) m) : accL n G f (l.map j) [] m P := by
  have go : ∀ (r d : List α), l = d ++ r → accL n G f (r.map j) (d.flatMap g) m P := by
    intro r
    induction r with
    | nil => intro d e; rw [List.append_nil] at e; subst e; exact ⟨hG, hP⟩
    | cons a r ih =>
      intro d e
      have ha : a ∈ l := by rw [e]; simp
      have hb2 : (d.flatMap g).length + (g a).length ≤ B := by
        rw [e] at hb
        simp only [List.flatMap_append, List.flatMap_cons, List.length_append] at hb
        omega
      refine ⟨hG, hf a ha _ _ hb2 ?_⟩
      rw [List.take_of_length_le hn]
      have := ih (d ++ [a]) (by rw [e]; simp)
      simpa [List.flatMap_append] using this
  exact go l [] rfl
theorem acc_map {α : Type} {G : Store → Prop} {f : AV → List AV → Store → (List AV → Store → Prop) → Prop} {m : Store} {P : List AV → Store → Prop} {acc0 : List AV} (l : List α) (j : α → AV) (g : α → Option AV) (hG : G m)
    (hf : ∀ a ∈ l, ∀ (acc : List AV) (Kt : List AV → Store → Prop), acc.length < acc0.length + l.length → Kt (acc ++ (g a).toList) m → f (j a) acc m Kt) (hP : P (acc0 ++ l.filterMap g) m) : accI G f (l.map j) acc0 m P := by
  induction l generalizing acc0 with
  | nil => exact ⟨hG, by simpa using hP⟩
  | cons a r ih =>
    refine ⟨hG, hf a List.mem_cons_self _ _ (by simp) ?_⟩
    refine ih (fun b hb acc Kt hl => hf b (List.mem_cons_of_mem _ hb) acc Kt (by
      have : (g a).toList.length ≤ 1 := by cases g a <;> simp
      simp only [List.length_append, List.length_cons] at hl ⊢; omega)) ?_
    rw [List.filterMap_cons] at hP
    cases h : g a with
    | none => rw [h] at hP; simpa using hP
    | some z => rw [h] at hP; simpa using hP
/-- a loop by an invariant: Iv by what is left to walk -/
theorem for_inv {n : Nat} {G : Store → Prop} {b : AV → WS} {F : Fin} (Iv : List AV → Slots → Store → Prop) (hG : ∀ xs ρ m, Iv xs ρ m → G m)
    (hs : ∀ x r ρ m (nx : Slots → Store → Prop), Iv (x :: r) ρ m → (∀ ρ' m', Iv r (keepS n ρ') (m'.take n) → nx ρ' m') → b x { nx := nx, rt := F.rt, bk := F.nx, ct := nx } ρ m) (hd : ∀ ρ m, Iv [] ρ m → F.nx ρ m) :
    ∀ {xs : List AV} {ρ : Slots} {m : Store}, Iv xs ρ m → forL n G b F xs ρ m
  | [], _, _, h => ⟨hG _ _ _ h, hd _ _ h⟩
  | x :: r, ρ, m, h => ⟨hG _ _ _ h, hs x r ρ m _ h fun _ _ q => for_inv Iv hG hs hd q⟩
theorem snocAt {α : Type} (l : List α) (a : α) : (l ++ [a])[l.length]? = some a := by simp
theorem snocTake {α : Type} (l : List α) (a : α) : (l ++ [a]).take l.length = l := by simp
theorem ims_mapF {α : Type} (g : α → PyData) (l : List α) : ims (l.map fun a => .im (g a)) = some (l.map g) := by
  have := ims_map (l.map g)
  rwa [List.map_map] at this
theorem filterMap_if {α β : Type} (p : α → Bool) (g : α → β) : ∀ l : List α, (l.filterMap fun b => if p b = true then some (g b) else none) = (l.filter p).map g
  | [] => rfl
  | b :: r => by
    rw [List.filterMap_cons, List.filter_cons]
    cases h : p b with
    | true => simp [filterMap_if p g r]
    | false => simpa using filterMap_if p g r
theorem nodup_map {α β : Type} {f : α → β} (h : ∀ a b, f a = f b → a = b) {l : List α} (nd : l.Nodup) : (l.map f).Nodup := by
  unfold List.Nodup
  rw [List.pairwise_map]
  exact nd.imp fun n z => n (h _ _ z)
end Ab
end

section
set_option maxRecDepth 100000
set_option maxHeartbeats 4000000
/-! Readings over data: enumerate, zip, items, dict(..), comprehensions whose turns make lists. -/
namespace Ab
open PySem PySem.Spec PyProof.Rows L2 Gd RZ
/-- the items with their numbers -/
def enumF : Nat → List PyData → List AV
  | _, [] => []
  | i, x :: r => .im (.tuple [.int (i : Nat), x]) :: enumF (i + 1) r
theorem enumF_len : ∀ (i : Nat) (xs : List PyData), (enumF i xs).length = xs.length
  | _, [] => rfl
  | i, x :: r => by simp [enumF, enumF_len (i + 1) r]
theorem enumF_at : ∀ {xs : List PyData} {k i : Nat} {d : AV}, (enumF k xs)[i]? = some d → ∃ x, xs[i]? = some x ∧ d = .im (.tuple [.int ((k + i : Nat) : Int), x])
  | [], _, _, _, h => by simp [enumF] at h
  | x :: r, k, 0, d, h => by simp [enumF] at h; exact ⟨x, rfl, by rw [← h]; rfl⟩
  | x :: r, k, i + 1, d, h => by
    simp only [enumF, List.getElem?_cons_succ] at h
    obtain ⟨y, h1, rfl⟩ := enumF_at h
    exact ⟨y, by simpa using h1, by rw [show k + 1 + i = k + (i + 1) by omega]⟩
section
variable {N M : List Addr} {H : Hp} {m : Store} {K : PySem.W.Frag} {a b : Addr}
/-- a new pair of data -/
theorem new_pair {N2 M2 : List Addr} {H2 : Hp} {m2 : Store} {T : Addr} {x y : V} {dx dy : PyData} (R : Rel N2 M2 H2 m2) (hT : H2 T = none) (rx : Rep (M2 ++ N2) H2 x dx) (ry : Rep (M2 ++ N2) H2 y dy) :
    (∀ b o, H2 b = some o → (upd H2 T (.tup [x, y])) b = some o) ∧ RV M2.length N2 M2 (upd H2 T (.tup [x, y])) (.ref T) (.im (.tuple [dx, dy])) :=
  ⟨fun b o h => by rw [upd_ne (ne_of_none h hT)]; exact h, Rep.tup (R.live.fresh hT) upd_same (.cons (Gd.Rep.keep (Kp.new hT) rx) (.cons (Gd.Rep.keep (Kp.new hT) ry) .nil))⟩
/-- what a list that is read gives later -/
theorem wk_enum {us : List V} {xs : List PyData} (na : a ∉ M ++ N) (ha : H a = some (.lst us)) (r : Reps (M ++ N) H us xs) : Wk (Ite K a) N M H (enumF 0 xs) yes := by
  have l := r.length
  refine ⟨fun i N2 M2 H2 m2 hi e _ _ => ?_, fun N2 M2 H2 m2 e _ _ => ⟨us, .inl (.inl (e.kp a _ na ha)), by rw [enumF_len, l]; exact Nat.le_refl _⟩, fun i x d N2 M2 H2 H3 m2 hd nn e n2 R _ y => ?_⟩
  · rw [enumF_len, ← l] at hi
    exact ⟨us, us[i], .inl (.inl (e.kp a _ na ha)), by simp [hi]⟩
  · obtain ⟨T, v, rfl, hT, rfl, y2⟩ := y
    obtain ⟨z, h1, rfl⟩ := enumF_at hd
    obtain ⟨w, h2, h3⟩ := r.at' h1
    have := y2 us (.inl (.inl (e.kp a _ na ha)))
    rw [h2] at this
    cases this
    rw [Nat.zero_add]
    exact new_pair R hT (.int _) (Rep.seen e nn n2 h3)
theorem wk_enumM {j : Nat} {xs : List PyData} (ha : M[j]? = some a) : Wk (Ite K a) N M H (enumF 0 xs) (fun m => m[j]? = some (.lst (xs.map .im))) := by
  refine ⟨fun i N2 M2 H2 m2 hi e R g => ?_, fun N2 M2 H2 m2 e R g => ?_, fun i x d N2 M2 H2 H3 m2 hd nn e n2 R g y => ?_⟩
  · obtain ⟨us, h1, h2⟩ := R.cell j a _ (e.get ha) g
    have hl := pair_len h2
    rw [List.length_map] at hl
    rw [enumF_len, ← hl] at hi
    exact ⟨us, us[i], .inl (.inl h1), by simp [hi]⟩
  · obtain ⟨us, h1, h2⟩ := R.cell j a _ (e.get ha) g
    have hl := pair_len h2
    rw [List.length_map] at hl
    exact ⟨us, .inl (.inl h1), by rw [enumF_len, hl]; exact Nat.le_refl _⟩
  · obtain ⟨us, h1, h2⟩ := R.cell j a _ (e.get ha) g
    obtain ⟨T, v, rfl, hT, rfl, y2⟩ := y
    obtain ⟨z, h3, rfl⟩ := enumF_at hd
    have rr := ims_of h2 (ims_map xs)
    obtain ⟨w, h4, h5⟩ := rr.at' h3
    have := y2 us (.inl (.inl h1))
    rw [h4] at this
    cases this
    rw [Nat.zero_add]
    exact new_pair R hT (.int _) h5
theorem zip_at {α β : Type} : ∀ {xs : List α} {ys : List β} {i : Nat} {p : α × β}, (xs.zip ys)[i]? = some p → xs[i]? = some p.1 ∧ ys[i]? = some p.2
  | [], _, _, _, h => by simp at h
  | _ :: _, [], _, _, h => by simp at h
  | x :: r, y :: s, 0, p, h => by simp at h; subst h; exact ⟨rfl, rfl⟩
  | x :: r, y :: s, i + 1, p, h => by
    simp only [List.zip_cons_cons, List.getElem?_cons_succ] at h
    simpa using zip_at h
def zipD (xs ys : List PyData) : List AV := (xs.zip ys).map fun p => .im (.tuple [p.1, p.2])
theorem wk_zipT {us ws : List V} {xs ys : List PyData} (na : a ∉ M ++ N) (ha : H a = some (.tup us)) (r : Reps (M ++ N) H us xs) (nb : b ∉ M ++ N) (hb : H b = some (.tup ws)) (s : Reps (M ++ N) H ws ys) : Wk (ItzT K a b) N M H (zipD xs ys) yes := by
  have l := r.length
  have l2 := s.length
  have ll : (zipD xs ys).length = min us.length ws.length := by unfold zipD; rw [List.length_map, List.length_zip, l, l2]
  refine ⟨fun i N2 M2 H2 m2 hi e _ _ => ?_, fun N2 M2 H2 m2 e _ _ => ?_, fun i x d N2 M2 H2 H3 m2 hd nn e n2 R _ y => ?_⟩
  · rw [ll] at hi
    have h1 : i < us.length := by omega
    have h2 : i < ws.length := by omega
    exact ⟨us, ws, us[i], ws[i], .inl (.inl (e.kp a _ na ha)), .inl (.inl (e.kp b _ nb hb)), by simp [h1], by simp [h2]⟩
  · exact ⟨us, ws, .inl (.inl (e.kp a _ na ha)), .inl (.inl (e.kp b _ nb hb)), by rw [ll]; omega⟩
  · obtain ⟨T, v, w, rfl, hT, rfl, y1, y2⟩ := y
    unfold zipD at hd
    rw [List.getElem?_map] at hd
    obtain ⟨p, hp, rfl⟩ := Option.map_eq_some_iff.mp hd
    obtain ⟨p1, p2⟩ := zip_at hp
    obtain ⟨v1, q1, q2⟩ := r.at' p1
    obtain ⟨v2, q3, q4⟩ := s.at' p2
    have e1 := y1 us (.inl (.inl (e.kp a _ na ha)))
    have e2 := y2 ws (.inl (.inl (e.kp b _ nb hb)))
    rw [q1] at e1; cases e1
    rw [q3] at e2; cases e2
    exact new_pair R hT (Rep.seen e nn n2 q2) (Rep.seen e nn n2 q4)
theorem wk_zipL {us ws : List V} {xs ys : List PyData} (na : a ∉ M ++ N) (ha : H a = some (.lst us)) (r : Reps (M ++ N) H us xs) (nb : b ∉ M ++ N) (hb : H b = some (.lst ws)) (s : Reps (M ++ N) H ws ys) : Wk (Itz K a b) N M H (zipD xs ys) yes := by
  have l := r.length
  have l2 := s.length
  have ll : (zipD xs ys).length = min us.length ws.length := by unfold zipD; rw [List.length_map, List.length_zip, l, l2]
  refine ⟨fun i N2 M2 H2 m2 hi e _ _ => ?_, fun N2 M2 H2 m2 e _ _ => ?_, fun i x d N2 M2 H2 H3 m2 hd nn e n2 R _ y => ?_⟩
  · rw [ll] at hi
    have h1 : i < us.length := by omega
    have h2 : i < ws.length := by omega
    exact ⟨us, ws, us[i], ws[i], .inl (.inl (e.kp a _ na ha)), .inl (.inl (e.kp b _ nb hb)), by simp [h1], by simp [h2]⟩
  · exact ⟨us, ws, .inl (.inl (e.kp a _ na ha)), .inl (.inl (e.kp b _ nb hb)), by rw [ll]; omega⟩
  · obtain ⟨T, v, w, rfl, hT, rfl, y1, y2⟩ := y
    unfold zipD at hd
    rw [List.getElem?_map] at hd
    obtain ⟨p, hp, rfl⟩ := Option.map_eq_some_iff.mp hd
    obtain ⟨p1, p2⟩ := zip_at hp
    obtain ⟨v1, q1, q2⟩ := r.at' p1
    obtain ⟨v2, q3, q4⟩ := s.at' p2
    have e1 := y1 us (.inl (.inl (e.kp a _ na ha)))
    have e2 := y2 ws (.inl (.inl (e.kp b _ nb hb)))
    rw [q1] at e1; cases e1
    rw [q3] at e2; cases e2
    exact new_pair R hT (Rep.seen e nn n2 q2) (Rep.seen e nn n2 q4)
theorem wk_items {us : List (Key × V)} {kvs : List (Key × AV)} {o : Obj} {j : Nat} (ha : M[j]? = some a) : Wk (Iti a o us) N M H (kvs.map fun kv => .pr (.im (keyD kv.1)) kv.2) (fun m => m[j]? = some (.fz o us kvs)) := by
  refine ⟨fun i N2 M2 H2 m2 hi e R g => ?_, fun N2 M2 H2 m2 e R g => ?_, fun i x d N2 M2 H2 H3 m2 hd nn e n2 R g y => ?_⟩
  · obtain ⟨h1, h2⟩ := R.cell j a _ (e.get ha) g
    exact ⟨h1, by rw [pair_len h2]; simpa using hi⟩
  · obtain ⟨h1, h2⟩ := R.cell j a _ (e.get ha) g
    exact ⟨h1, by rw [pair_len h2]; simp⟩
  · obtain ⟨h1, h2⟩ := R.cell j a _ (e.get ha) g
    obtain ⟨T, k, v, y1, rfl, hT, rfl⟩ := y
    rw [List.getElem?_map] at hd
    obtain ⟨kv, hkv, rfl⟩ := Option.map_eq_some_iff.mp hd
    obtain ⟨q, hq, e1, e2⟩ := pair_at h2 hkv
    rw [y1] at hq
    cases hq
    have hj := (List.getElem?_eq_some_iff.mp (e.get ha)).1
    have x' : Ext M2 H2 M2 (upd H2 T (.tup [kV k, v])) := .alloc hT
    refine ⟨fun b o h => by rw [upd_ne (ne_of_none h hT)]; exact h, T, _, _, rfl, R.live.fresh hT, upd_same, ?_, (e2.up (by omega)).ext x'⟩
    simp only at e1
    rw [← e1]
    cases k with
    | inl i => exact .int i
    | inr x => exact .str x
end
section
variable {X : Cx} {B : Bk} {e e2 : Expr} {ta : TA} {wa : WL} {K : PySem.W.Frag} {p pos tpos : Pos} {elts : List Expr} {kk : Nat}
def wiEnum (wa : WL) : WI := fun ρ m P => wa ρ m fun ds m1 => match ds with
  | [.im (.list xs)] => P (enumF 0 xs) yes m1
  | [.wl xs] => P (enumF 0 xs) yes m1
  | [.mu i] => (match asL (.mu i) m1 with | some xs => P (enumF 0 xs) (fun m => m[i]? = some (.lst (xs.map .im))) m1 | none => False)
  | _ => False
theorem ims_eq : ∀ {ds : List AV} {xs : List PyData}, ims ds = some xs → ds = xs.map .im
  | [], _, h => by cases h; rfl
  | .im d :: r, _, h => by
    unfold ims at h
    obtain ⟨ys, h1, rfl⟩ := Option.map_eq_some_iff.mp h
    rw [ims_eq h1]; rfl
theorem ai_enum (hK : X.K = K) (hg : Gl X "enumerate") (hm : X.mg "enumerate" = none) (ha : AL X B [e] ta wa) (hs : starEach [e] X.env = [(false, eval e X.env)] := by rfl) : AI X B (.Tuple elts kk tpos) (.Call (.Name "enumerate" p) [e] [] pos) (iEnum K ta) (wiEnum wa) :=
  ⟨hK ▸ pi_enum hg hm ha.pa hs, fun N M H σ ρ m P R x0 S Rl hw q => ha.la N M H σ ρ m _ _ x0 S Rl hw fun vs ds M1 H1 m1 x1 R1 r1 h1 => by
    split at h1
    · obtain ⟨v, rfl, rv⟩ := val1 r1
      cases rv with
      | lst n ne e z => exact ⟨_, _, rfl, .inl (.inl e), q _ _ yes M1 H1 m1 x1 R1 (wk_enum n e z) h1⟩
    · obtain ⟨v, rfl, a, us, rfl, n, e, z⟩ := val1 r1
      exact ⟨_, _, rfl, .inl (.inl e), q _ _ yes M1 H1 m1 x1 R1 (wk_enum n e z) h1⟩
    · rename_i i
      obtain ⟨v, rfl, rv⟩ := val1 r1
      split at h1
      · rename_i xs ex
        obtain ⟨_, a, ha, rfl⟩ := rv
        unfold asL at ex
        simp only at ex
        split at ex
        · rename_i ys ey
          have := ims_eq ex
          subst this
          obtain ⟨us, h3, h4⟩ := R1.cell i a _ ha ey
          exact ⟨a, us, rfl, .inl (.inl h3), q _ _ _ M1 H1 m1 x1 R1 (wk_enumM ha) h1⟩
        · cases ex
      · exact h1.elim
    · exact h1.elim⟩
def wiZip (wa : WL) : WI := fun ρ m P => wa ρ m fun ds m1 => match ds with
  | [.im (.tuple xs), .im (.tuple ys)] => P (zipD xs ys) yes m1
  | [.wl xs, .wl ys] => P (zipD xs ys) yes m1
  | [.im (.list xs), .im (.list ys)] => P (zipD xs ys) yes m1
  | _ => False
theorem ai_zip (hK : X.K = K) (hg : Gl X "zip") (hm : X.mg "zip" = none) (ha : AL X B [e, e2] ta wa) (hs : starEach [e, e2] X.env = (false, eval e X.env) :: starEach [e2] X.env := by rfl) (hpl : (backTo pos (starEach [e2] X.env)).any (·.1) = false := by rfl) :
    AI X B (.Tuple elts kk tpos) (.Call (.Name "zip" p) [e, e2] [] pos) (iZipA K ta) (wiZip wa) :=
  ⟨hK ▸ pi_zipA hg hm ha.pa hs hpl, fun N M H σ ρ m P R x0 S Rl hw q => ha.la N M H σ ρ m _ _ x0 S Rl hw fun vs ds M1 H1 m1 x1 R1 r1 h1 => by
    split at h1
    · obtain ⟨v, w, rfl, rv, rw'⟩ := val2 r1
      cases rv with
      | tup n e z => cases rw' with
        | tup n2 e2 z2 => exact ⟨_, _, _, _, rfl, .inr ⟨.inl (.inl e), .inl (.inl e2), q _ _ yes M1 H1 m1 x1 R1 (wk_zipT n e z n2 e2 z2) h1⟩⟩
    · obtain ⟨v, w, rfl, ⟨a, us, rfl, n, e, z⟩, ⟨b, ws, rfl, n2, e2, z2⟩⟩ := val2 r1
      exact ⟨_, _, _, _, rfl, .inl ⟨.inl (.inl e), .inl (.inl e2), q _ _ yes M1 H1 m1 x1 R1 (wk_zipL n e z n2 e2 z2) h1⟩⟩
    · obtain ⟨v, w, rfl, rv, rw'⟩ := val2 r1
      cases rv with
      | lst n _ e z => cases rw' with
        | lst n2 _ e2 z2 => exact ⟨_, _, _, _, rfl, .inl ⟨.inl (.inl e), .inl (.inl e2), q _ _ yes M1 H1 m1 x1 R1 (wk_zipL n e z n2 e2 z2) h1⟩⟩
    · exact h1.elim⟩
variable {td : TE} {wd : WE} {apos cpos : Pos}
def wiItems (wd : WE) : WI := fun ρ m P => wd ρ m fun d m1 => match d with
  | .mu j => (match m1[j]? with | some (.fz o us kvs) => P (kvs.map fun kv => .pr (.im (keyD kv.1)) kv.2) (fun m => m[j]? = some (.fz o us kvs)) m1 | _ => False)
  | _ => False
theorem ai_items (he : AE X B e td wd) (hbase : attributeBase e "items" X.env (eval e X.env) = eval e X.env := by rfl) (hline : (apos.endLine == cpos.line) = true := by rfl) :
    AI X B (.Tuple elts kk tpos) (.Call (.Attribute e "items" apos) [] [] cpos) (iItems td) (wiItems wd) :=
  ⟨pi_items he.pe hbase hline, fun N M H σ ρ m P R x0 S Rl hw q => he.le N M H σ ρ m _ _ x0 S Rl hw fun v d M1 H1 m1 x1 R1 r1 h1 => by
    split at h1
    · rename_i j
      obtain ⟨_, a, ha, rfl⟩ := r1
      split at h1
      · rename_i o us kvs ex
        obtain ⟨h3, h4⟩ := R1.cell j a _ ha ex
        exact ⟨a, o, us, rfl, h3, q _ _ _ M1 H1 m1 x1 R1 (wk_items ha) h1⟩
      · exact h1.elim
    · exact h1.elim⟩
/-- an expression in which the dict in slot i is walked -/
def wLock (i : Nat) (w : WE) : WE := fun ρ m P => match ρ[i]? with
  | some (some (.mu j)) => (match m[j]? with
    | some (.dk kvs) => ∀ o us, w ρ (m.set j (.fz o us kvs)) fun d m' => m'[j]? = some (.fz o us kvs) ∧ P d (m'.set j (.dk kvs))
    | _ => False)
  | _ => False
theorem ae_lock {x : Expr} {t : TE} {w : WE} (i : Nat) (h : AE X B x t w) : AE X B x (tLockE t) (wLock i w) := ⟨pe_lock h.pe, fun N M H σ ρ m P Q x0 S R hw q => by
  unfold wLock at hw
  split at hw
  · rename_i j ej
    split at hw
    · rename_i kvs ek
      obtain ⟨v, _, _, a, ha, rfl⟩ := S.2 i _ ej
      obtain ⟨us, h3, h4⟩ := R.cell j a _ ha ek
      have ma : a ∈ M := List.mem_of_getElem? ha
      refine ⟨a, .dK us, h3, trivial, fun o => ?_⟩
      obtain ⟨R', x'⟩ := R.put (c := .fz o us kvs) (o := .frz o (.dK us)) ha ⟨upd_same, pair_imp (fun _ _ r => ⟨r.1, r.2.put ma⟩) h4⟩
      refine h.le N M _ σ ρ _ _ _ (x0.trans x') (S.ext x') R' (hw o us) fun v d M' H' m' x1 R1 r1 h1 => ?_
      obtain ⟨g, h1⟩ := h1
      have ha' := x1.get ha
      have ma' : a ∈ M' := List.mem_of_getElem? ha'
      obtain ⟨h5, h6⟩ := R1.cell j a _ ha' g
      obtain ⟨R2, x2⟩ := R1.put (c := .dk kvs) (o := .dK us) ha' ⟨us, upd_same, pair_imp (fun _ _ r => ⟨r.1, r.2.put ma'⟩) h6⟩
      exact ⟨h5, q _ d M' _ _ ((x'.trans x1).trans x2) R2 (r1.extL x2) h1⟩
    · exact hw.elim
  · exact hw.elim⟩
/-! ### dict(pairs) -/
def pairsA : List AV → Option (List (Key × AV))
  | [] => some []
  | .pr (.im k) v :: r => (keyA k).bind fun k => (pairsA r).map ((k, v) :: ·)
  | .im (.tuple [k, v]) :: r => (keyA k).bind fun k => (pairsA r).map ((k, .im v) :: ·)
  | _ => none
def mergeA (kvs more : List (Key × AV)) : List (Key × AV) := more.foldl (fun acc kv => putA acc kv.1 kv.2) kvs
def itemsA (d : AV) (m : Store) : Option (List AV) := match d with
  | .im (.list xs) => some (xs.map .im)
  | .wl xs => some (xs.map .im)
  | .mu i => (match m[i]? with | some (.lst xs) => some xs | _ => none)
  | _ => none
theorem itemsA_of {N M : List Addr} {H : Hp} {m : Store} {v : V} {d : AV} {xs : List AV} (R : Rel N M H m) (r : RV M.length N M H v d) (h : itemsA d m = some xs) : ∃ a us, v = .ref a ∧ H a = some (.lst us) ∧ RVs M.length N M H us xs := by
  unfold itemsA at h
  split at h
  · cases h
    cases r with
    | lst n ne e z => exact ⟨_, _, rfl, e, to_ims z⟩
  · cases h
    obtain ⟨a, us, rfl, _, e, z⟩ := r
    exact ⟨a, us, rfl, e, to_ims z⟩
  · rename_i i
    split at h
    · rename_i ys e
      cases h
      obtain ⟨_, a, ha, rfl⟩ := r
      obtain ⟨us, h1, h2⟩ := R.cell i a _ ha e
      have hi := (List.getElem?_eq_some_iff.mp ha).1
      exact ⟨a, us, rfl, h1, pair_imp (fun _ _ r => r.up (by omega)) h2⟩
    · cases h
  · cases h
theorem pairsA_of {N M : List Addr} {H : Hp} {n : Nat} {K : PySem.W.Frag} : ∀ {us : List V} {xs : List AV} {kvs : List (Key × AV)}, RVs n N M H us xs → pairsA xs = some kvs →
    ∃ (ps : List Addr) (kus : List (Key × V)), us = ps.map V.ref ∧ Paired (fun p kv => SqT K H p [kV kv.1, kv.2]) ps kus ∧ RKs n N M H kus kvs
  | _, [], _, .nil, h => by cases h; exact ⟨[], [], rfl, .nil, .nil⟩
  | _, .pr (.im k) v :: r, _, .cons r1 r2, h => by
    unfold pairsA at h
    obtain ⟨kk, h1, h2⟩ := Option.bind_eq_some_iff.mp h
    obtain ⟨kvs, h3, rfl⟩ := Option.map_eq_some_iff.mp h2
    obtain ⟨a, u, w, rfl, _, e, s1, s2⟩ := r1
    obtain ⟨ps, kus, rfl, p1, p2⟩ := pairsA_of (K := K) r2 h3
    exact ⟨a :: ps, (kk, w) :: kus, rfl, .cons (by rw [← key_rep s1 h1]; exact .inl (.inl e)) p1, .cons ⟨rfl, s2⟩ p2⟩
  | _, .im (.tuple [k, v]) :: r, _, .cons r1 r2, h => by
    unfold pairsA at h
    obtain ⟨kk, h1, h2⟩ := Option.bind_eq_some_iff.mp h
    obtain ⟨kvs, h3, rfl⟩ := Option.map_eq_some_iff.mp h2
    obtain ⟨ps, kus, rfl, p1, p2⟩ := pairsA_of (K := K) r2 h3
    cases r1 with
    | tup n e z =>
      cases z with
      | cons s1 z => cases z with
        | cons s2 z =>
          cases z
          exact ⟨_ :: ps, (kk, _) :: kus, rfl, .cons (by rw [← key_rep s1 h1]; exact .inl (.inl e)) p1, .cons ⟨rfl, s2⟩ p2⟩
theorem merge_of {N M : List Addr} {H : Hp} {n : Nat} : ∀ {more : List (Key × V)} {moreA : List (Key × AV)} {us : List (Key × V)} {kvs : List (Key × AV)}, RKs n N M H more moreA → RKs n N M H us kvs → RKs n N M H (mergeK us more) (mergeA kvs moreA)
  | _, _, _, _, .nil, s => s
  | _, _, _, _, .cons (a := p) (b := q) r t, s => by
    show RKs n N M H (mergeK (putK _ p.1 p.2) _) (mergeA (putA _ q.1 q.2) _)
    rw [r.1]
    exact merge_of t (put_of q.1 s r.2)
def gDict : GL := fun ds m P => match ds with
  | [d] => (match itemsA d m with
    | some xs => (match pairsA xs with | some kvs => P (.mu m.length) (m ++ [.dk (mergeA [] kvs)]) | none => False)
    | none => False)
  | _ => False
theorem ca_dict (hc : X.calm = true) : CA X (.type "dict") gDict := by
  rintro pins s σ H vs us Q I r ⟨N, M, m, ds, P, R, r1, hg, q⟩
  unfold gDict at hg
  split at hg
  · obtain ⟨v, rfl, rv⟩ := val1 r1
    split at hg
    · rename_i xs e1
      split at hg
      · rename_i kvs e2
        obtain ⟨a, us', rfl, h1, h2⟩ := itemsA_of R rv e1
        obtain ⟨ps, kus, rfl, p1, p2⟩ := pairsA_of (K := X.K) h2 e2
        refine call_dictP hc pins s σ H _ us Q I r ⟨a, ps, kus, rfl, .inl (.inl h1), p1, fun p hp => ?_⟩
        have rk := merge_of p2 (.nil : RKs M.length N M H ([] : List (Key × V)) ([] : List (Key × AV)))
        have np := R.liveM.fresh hp
        have ex : Ext M H (M ++ [p]) (upd H p (.dK (mergeK [] kus))) := ⟨List.prefix_append _ _, Kp.new hp, fun a h1 h2 => by
          rcases List.mem_append.mp h1 with z | z
          · exact absurd z h2
          · rw [List.mem_singleton.mp z]; exact hp⟩
        obtain ⟨R', x'⟩ := R.grow (c := .dk (mergeA [] kvs)) hp ⟨_, upd_same, by rw [← R.len]; exact pair_imp (fun _ _ r => ⟨r.1, r.2.ext ex⟩) rk⟩
        exact q _ (.mu m.length) _ _ _ x' R' ⟨by rw [← R.len]; simp, p, last_mu R p, rfl⟩ hg
      · exact hg.elim
    · exact hg.elim
  · exact hg.elim
end
end Ab
end

section
set_option maxRecDepth 100000
set_option maxHeartbeats 4000000
/-! Readings over data: comprehensions whose turns make lists that stay. -/
namespace Ab
open PySem PySem.Spec PyProof.Rows L2 Gd
def turnK (vs : List Nat) (wg : WG) (wt : WT) (we : WE) (ρ : Slots) : AV → List AV → Store → (List AV → Store → Prop) → Prop := fun x acc m K => wg x (wipeS ρ vs) m fun ρ2 m2 => wt ρ2 m2 fun b m3 =>
  if b = true then we ρ2 m3 fun z m4 => acc.length < sizeLine ∧ K (acc ++ [z]) m4 else K acc m3
def wLcK (vs : List Nat) (wi : WI) (wg : WG) (wt : WT) (we : WE) : WE := fun ρ m P => wi ρ m fun xs G m1 => accI G (turnK vs wg wt we ρ) xs [] m1 fun ys m2 => P (.mu m2.length) (m2 ++ [.lst ys])
structure MidK (N M1 : List Addr) (H1 : Hp) (D : Addr) (σ : L2.St) (ρ : Slots) (M : List Addr) (H : Hp) (m : Store) (acc : List AV) : Prop where
  x : Ext M1 H1 M H
  nD : D ∉ M
  us : ∃ us, H D = some (.lst us) ∧ RVs M.length (D :: N) M H us acc
  sr : SR (D :: N) M H σ ρ
  rel : Rel (D :: N) M H m
theorem MidK.later {N M1 : List Addr} {H1 : Hp} {D : Addr} {σ σ' : L2.St} {ρ ρ' : Slots} {M M' : List Addr} {H H' : Hp} {m m' : Store} {acc : List AV} (q : MidK N M1 H1 D σ ρ M H m acc) (e : Ext M H M' H') (S : SR (D :: N) M' H' σ' ρ') (R : Rel (D :: N) M' H' m') : MidK N M1 H1 D σ' ρ' M' H' m' acc := by
  obtain ⟨us, h1, h2⟩ := q.us
  have nn : D ∉ M' := fun z => by have := e.new D z q.nD; rw [h1] at this; cases this
  exact ⟨q.x.trans e, nn, ⟨us, e.kp D _ q.nD h1, RVs.extL e h2⟩, S, R⟩
theorem MidK.push {N M1 : List Addr} {H1 : Hp} {D : Addr} {σ : L2.St} {ρ : Slots} {M : List Addr} {H : Hp} {m : Store} {acc : List AV} (q : MidK N M1 H1 D σ ρ M H m acc) (hD : H1 D = none) {v : V} {d : AV} (r : RV M.length (D :: N) M H v d) {us : List V} (hd : H D = some (.lst us)) :
    MidK N M1 H1 D σ ρ M (upd H D (.lst (us ++ [v]))) m (acc ++ [d]) := by
  obtain ⟨us', h1, h2⟩ := q.us
  rw [hd] at h1
  cases h1
  have hin : D ∈ D :: N := List.mem_cons_self
  refine ⟨⟨q.x.pre, fun b o nb hb => ?_, q.x.new⟩, q.nD, ⟨_, upd_same, pair_app (pair_imp (fun _ _ r => r.hid hin) h2) (.cons (r.hid hin) .nil)⟩, q.sr.hid hin, q.rel.hid hin q.nD⟩
  rw [upd_ne (fun z : b = D => by rw [z, hD] at hb; cases hb)]
  exact q.x.kp b o nb hb
theorem le_lcK {B : Bk} {wi : TI} {g : TG} {tt : TT} {te : TE} {vs : List Nat} {w : WI} {wg : WG} {wt : WT} {we : WE} (hi : LI B wi w) (hg : LG B g wg) (ho : Own g vs) (hgm : GMono g) (ht : LT B tt wt) (he : LE B te we) : LE B (tLc wi g tt te vs) (wLcK vs w wg wt we) := fun N M H σ ρ m P Q x0 S R h q => by
  refine hi N M H σ ρ m _ _ x0 S R h fun J xs G M1 H1 m1 x1 R1 wk h1 => fun D hD => ?_
  have S1 := S.ext x1
  have nDN : D ∉ N := fun z => by obtain ⟨o, e⟩ := R1.there D z; rw [hD] at e; cases e
  have old : ∀ b ∈ D :: N, b ∈ N ∨ H1 b = none := fun b hb => (List.mem_cons.mp hb).elim (fun z => .inr (by rw [z]; exact hD)) .inl
  refine ⟨fun i k H' => k = xs.length - i ∧ i ≤ xs.length ∧ ∃ M' m' acc, MidK N M1 H1 D σ ρ M' H' m' acc ∧ accI G (turnK vs wg wt we ρ) (xs.drop i) acc m' fun ys m2 => P (.mu m2.length) (m2 ++ [.lst ys]),
    ⟨_, rfl, Nat.zero_le _, M1, m1, [], ⟨.alloc hD, R1.liveM.fresh hD, ⟨[], upd_same, .nil⟩, S1.hide hD, R1.hide hD⟩, by simpa using h1⟩, ?_⟩
  rintro i k H' ⟨rfl, hi', M', m', acc, mid, h2⟩
  by_cases hlt : i < xs.length
  · rw [List.drop_eq_getElem_cons hlt] at h2
    obtain ⟨g0, h2⟩ := h2
    refine .inr ⟨wk.goes i (D :: N) M' H' m' hlt mid.x.toN mid.rel g0, fun H3 => ∃ M3 m3 acc3, MidK N M1 H1 D σ ρ M3 H3 m3 acc3 ∧ accI G (turnK vs wg wt we ρ) (xs.drop (i + 1)) acc3 m3 fun ys m2 => P (.mu m2.length) (m2 ++ [.lst ys]), ?_, ?_⟩
    · rintro H3 ⟨M3, m3, acc3, mid3, h3⟩
      exact ⟨xs.length - (i + 1), by omega, rfl, hlt, M3, m3, acc3, mid3, h3⟩
    · intro x H3 y
      obtain ⟨k3, rx⟩ := wk.yields i x xs[i] (D :: N) M' H' H3 m' (List.getElem?_eq_getElem hlt) (fun _ z => List.mem_cons_of_mem _ z) mid.x.toN old mid.rel g0 y
      obtain ⟨R3, x3⟩ := mid.rel.kept k3
      have mid3 := mid.later x3 (mid.sr.ext x3) R3
      have b0 : B.Ok (D :: N) M' H3 := ((x0.trans x1).trans mid3.x).hide D
      refine hgm _ _ _ _ _ (ho _ _ _ _ (hg (D :: N) M' H3 (wipe σ vs) (wipeS ρ vs) m' x _ _ (fun σ2 H2 => ∃ ρ2 M2 m2, Ext M' H3 M2 H2 ∧ SR (D :: N) M2 H2 σ2 ρ2 ∧ Rel (D :: N) M2 H2 m2 ∧ wt ρ2 m2 fun b m3 =>
          if b = true then we ρ2 m3 fun z m4 => acc.length < sizeLine ∧ accI G (turnK vs wg wt we ρ) (xs.drop (i + 1)) (acc ++ [z]) m4 fun ys m2 => P (.mu m2.length) (m2 ++ [.lst ys]) else accI G (turnK vs wg wt we ρ) (xs.drop (i + 1)) acc m3 fun ys m2 => P (.mu m2.length) (m2 ++ [.lst ys]))
          b0 (mid3.sr.wipe vs) R3 rx h2 fun M2 H2 σ2 ρ2 m2 x2 S2 R2 h => ⟨ρ2, M2, m2, x2, S2, R2, h⟩)) fun σ2 H2 ⟨e2, ρ2, M2, m2, x2, S2, R2, h4⟩ => ⟨e2.trans (wipe_wipe σ vs), ?_⟩
      refine ht (D :: N) M2 H2 σ2 ρ2 m2 _ _ (b0.trans x2) S2 R2 h4 fun b M5 H5 m5 x5 R5 h5 => ?_
      have mid5 := mid3.later (x2.trans x5) ((mid3.sr.ext x2).ext x5) R5
      cases b with
      | false => exact ⟨M5, m5, acc, mid5, h5⟩
      | true =>
        simp only [if_true] at h5 ⊢
        refine he (D :: N) M5 H5 σ2 ρ2 m5 _ _ ((b0.trans x2).trans x5) (S2.ext x5) R5 h5 fun v d M6 H6 m6 x6 R6 r6 h6 => ?_
        have mid6 := mid5.later x6 (mid5.sr.ext x6) R6
        obtain ⟨us, e1, e3⟩ := mid6.us
        exact ⟨us, e1, by rw [pair_len e3]; exact h6.1, M6, m6, acc ++ [d], mid6.push hD r6 e1, h6.2⟩
  · have e : i = xs.length := by omega
    subst e
    rw [List.drop_length] at h2
    obtain ⟨us, e1, e2⟩ := mid.us
    obtain ⟨a, b, c⟩ := unhide (c := .lst acc) mid.rel mid.nD (x1.trans mid.x) (x1.none (fun z => R1.liveM.fresh hD (x1.sub D z)) hD) ⟨us, e1, e2⟩
    exact .inl ⟨wk.stops (D :: N) M' H' m' mid.x.toN mid.rel h2.1, q _ (.mu m'.length) _ _ _ a b c h2.2⟩
section
variable {X : Cx} {B : Bk} {elt tg iter : Expr} {ifs : List Expr} {scope : Scope} {own : List (Str × Nat)} {pos spos : Pos} {wi : TI} {g : TG} {tt : TT} {te : TE} {w : WI} {wg : WG} {wt : WT} {we : WE}
theorem ae_lcK (hc : X.calm = true) (hN : X.N.Nodup) (hi : AI X B tg iter wi w) (ok : BlkOk X.N X.env.scope scope own)
    (hg : ∀ (s : Shared) (H : Hp) (C : Addr) (cl : List (Str × Addr)) (fp : List Addr), AG (X.blk s H scope (compEnvC scope cl C X.env) fp) B tg g wg) (ho : Own g (own.map (·.2))) (hgm : GMono g)
    (ht : ∀ (s : Shared) (H : Hp) (C : Addr) (cl : List (Str × Addr)) (fp : List Addr), ATs (X.blk s H scope (compEnvC scope cl C X.env) fp) B ifs tt wt)
    (he : ∀ (s : Shared) (H : Hp) (C : Addr) (cl : List (Str × Addr)) (fp : List Addr), AE (X.blk s H scope (compEnvC scope cl C X.env) fp) B elt te we) (hs : ∀ x, foldedSetIterable iter X.env x = pure x := by intro _; rfl) :
    AE X B (.ListComp elt [⟨tg, iter, ifs, 0⟩] scope pos) (tLc wi g tt te (own.map (·.2))) (wLcK (own.map (·.2)) w wg wt we) :=
  ⟨pe_lc hc hN hi.pi ok (fun s H C cl fp => (hg s H C cl fp).pg) (fun s H C cl fp => (ht s H C cl fp).pt) (fun s H C cl fp => (he s H C cl fp).pe) hs, le_lcK hi.li (hg X.s_0 X.H_0 X.env.locals [] []).lg ho hgm (ht X.s_0 X.H_0 X.env.locals [] []).lt (he X.s_0 X.H_0 X.env.locals [] []).le⟩
end
end Ab
end

section
set_option maxRecDepth 100000
set_option maxHeartbeats 4000000
/-! Readings over data: statements one by one, walks by an invariant. -/
namespace Ab
open PySem PySem.Spec PyProof.Rows L2 Gd
theorem wSeq_of {a b : WS} {F : Fin} {ρ : Slots} {m : Store} (h : ∀ N : Slots → Store → Prop, (∀ ρ m, b F ρ m → N ρ m) → a { F with nx := N } ρ m) : wSeq a b F ρ m := h _ fun _ _ z => z
theorem wFor_of {wi : WI} {wg : WG} {wb : WS} {F : Fin} {ρ : Slots} {m : Store} (h : ∀ B : AV → WS, (∀ x F ρ m, (wg x ρ m fun ρ2 m2 => wb F ρ2 m2) → B x F ρ m) → wi ρ m fun xs G m1 => forL m1.length G B F xs ρ m1) : wFor wi wg wb F ρ m := h _ fun _ _ _ _ z => z
/-- a comprehension by an invariant: Iv by what is left to walk and what is there -/
theorem lc_inv {n : Nat} {G : Store → Prop} {f : AV → Store → (Option AV → Store → Prop) → Prop} {P : List AV → Store → Prop} (Iv : List AV → List AV → Store → Prop) (hG : ∀ xs acc m, Iv xs acc m → G m)
    (hs : ∀ x r acc m (Kt : Option AV → Store → Prop), Iv (x :: r) acc m → (∀ y m', (∀ z, y = some z → z.und n = true) → Iv r (acc ++ y.toList) (m'.take n) → Kt y m') → f x m Kt) (hd : ∀ acc m, Iv [] acc m → P acc m) :
    ∀ {xs acc : List AV} {m : Store}, Iv xs acc m → lcL n G f xs m fun ys m2 => P (acc ++ ys) m2
  | [], acc, m, h => ⟨hG _ _ _ h, by show P (acc ++ []) m; rw [List.append_nil]; exact hd _ _ h⟩
  | x :: r, acc, m, h => ⟨hG _ _ _ h, hs x r acc m _ h fun y m' hu q => ⟨hu, by
      have := lc_inv Iv hG hs hd q
      have e : (fun ys m2 => P (acc ++ y.toList ++ ys) m2) = fun ys m2 => P (acc ++ match y with | some z => z :: ys | none => ys) m2 := by
        funext ys m2
        cases y <;> simp
      rw [e] at this
      exact this⟩⟩
theorem acc_inv {G : Store → Prop} {f : AV → List AV → Store → (List AV → Store → Prop) → Prop} {P : List AV → Store → Prop} (Iv : List AV → List AV → Store → Prop) (hG : ∀ xs acc m, Iv xs acc m → G m)
    (hs : ∀ x r acc m (Kt : List AV → Store → Prop), Iv (x :: r) acc m → (∀ acc' m', Iv r acc' m' → Kt acc' m') → f x acc m Kt) (hd : ∀ acc m, Iv [] acc m → P acc m) :
    ∀ {xs acc : List AV} {m : Store}, Iv xs acc m → accI G f xs acc m P
  | [], _, _, h => ⟨hG _ _ _ h, hd _ _ h⟩
  | x :: r, acc, m, h => ⟨hG _ _ _ h, hs x r acc m _ h fun _ _ q => acc_inv Iv hG hs hd q⟩
theorem val3 {xs : List V} {d e f : AV} {n : Nat} {N M : List Addr} {H : Hp} (r : RVs n N M H xs [d, e, f]) : ∃ v w u, xs = [v, w, u] ∧ RV n N M H v d ∧ RV n N M H w e ∧ RV n N M H u f := by
  cases r with
  | cons r1 r => cases r with
    | cons r2 r => cases r with
      | cons r3 r => cases r; exact ⟨_, _, _, rfl, r1, r2, r3⟩
theorem takeSet {α : Type} (m : List α) (i : Nat) (c : α) : (m.set i c).take m.length = m.set i c := List.take_of_length_le (Nat.le_of_eq (List.length_set ..))
theorem takeSet2 {α : Type} (m l : List α) (i : Nat) (c : α) : (m.set i c ++ l).take m.length = m.set i c := by rw [List.take_append_of_le_length (by simp), takeSet]
theorem setApp {α : Type} {m l : List α} {i : Nat} {c : α} (h : i < m.length) : (m ++ l).set i c = m.set i c ++ l := List.set_append_left _ _ h
theorem setEnd {α : Type} {m l : List α} {n : Nat} {c : α} (h : n = m.length) (a : α) : (m ++ a :: l).set n c = m ++ c :: l := by subst h; simp [List.set_append_right]
theorem getEnd {α : Type} {m l : List α} {n : Nat} (h : n = m.length) (a : α) : (m ++ a :: l)[n]? = some a := by subst h; simp
theorem getApp {α : Type} {m l : List α} {i : Nat} (h : i < m.length) : (m ++ l)[i]? = m[i]? := List.getElem?_append_left h
theorem getSet {α : Type} {m : List α} {i : Nat} {c : α} (h : i < m.length) : (m.set i c)[i]? = some c := List.getElem?_set_self h
theorem setSame {α : Type} {m : List α} {i : Nat} {c : α} (h : m[i]? = some c) : m.set i c = m := by
  obtain ⟨h1, h2⟩ := List.getElem?_eq_some_iff.mp h
  subst h2
  exact List.set_getElem_self h1
def keepO (n : Nat) (o : Option AV) : Option AV := match o with
  | some d => if d.und n then some d else none
  | none => none
theorem keepS_nil {n : Nat} : keepS n [] = [] := rfl
theorem keepS_cons {n : Nat} {o : Option AV} {ρ : Slots} : keepS n (o :: ρ) = keepO n o :: keepS n ρ := rfl
theorem keepO_none {n : Nat} : keepO n none = none := rfl
theorem keepO_im {n : Nat} {d : PyData} : keepO n (some (.im d)) = some (.im d) := rfl
theorem keepO_wl {n : Nat} {d : List PyData} : keepO n (some (.wl d)) = some (.wl d) := rfl
theorem keepO_mu {n i : Nat} (h : i < n) : keepO n (some (.mu i)) = some (.mu i) := by simp [keepO, AV.und, h]
theorem keepO_mu2 {n i : Nat} (h : ¬ i < n) : keepO n (some (.mu i)) = none := by simp [keepO, AV.und, h]
/-- a name that has no list that may change -/
abbrev Loose (o : Option AV) : Prop := ∀ n, keepO n o = o
theorem Loose.non : Loose none := fun _ => rfl
theorem Loose.im {d : PyData} : Loose (some (.im d)) := fun _ => rfl
theorem Loose.wl {d : List PyData} : Loose (some (.wl d)) := fun _ => rfl
end Ab
end

section
set_option maxRecDepth 100000
set_option maxHeartbeats 4000000
/-! Networks as data. -/
namespace Ab
open PySem PySem.Spec PyProof.Rows L2 Gd
abbrev prD (p : Str × Str) : PyData := .tuple [.str p.1, .str p.2]
abbrev netD (ss : List Str) (ts : List (Str × Str)) : PyData := .tuple [.tuple (ss.map .str), .tuple (ts.map prD)]
/-- a text of signs that are signs -/
abbrev okS (x : Str) : Prop := PyData.strOk x = true
structure NetOk (ss : List Str) (ts : List (Str × Str)) : Prop where
  s : ∀ s ∈ ss, okS s
  t : ∀ t ∈ ts, okS t.1 ∧ okS t.2
  ls : ss.length ≤ 1000
  lt : ts.length ≤ 1000
  nd : ss.Nodup
def talk (ts : List (Str × Str)) (a b : Str) : Bool := decide ((a, b) ∈ ts) || decide ((b, a) ∈ ts)
theorem eqv_str (x y : Str) : PyData.eqv (.str x) (.str y) = decide (x = y) := by
  simp only [PyData.eqv]
  by_cases h : x = y <;> simp [h]
theorem eqv_pr (p : Str × Str) (a b : Str) : PyData.eqv (prD p) (.tuple [.str a, .str b]) = decide (p = (a, b)) := by
  simp only [prD, PyData.eqv, PyData.eqvAll, Bool.and_true]
  obtain ⟨x, y⟩ := p
  by_cases h1 : x = a <;> by_cases h2 : y = b <;> simp [h1, h2]
theorem any_pr (ts : List (Str × Str)) (a b : Str) : ((ts.map prD).any fun y => PyData.eqv y (.tuple [.str a, .str b])) = decide ((a, b) ∈ ts) := by
  induction ts with
  | nil => rfl
  | cons p r ih =>
    rw [List.map_cons, List.any_cons, ih, eqv_pr]
    by_cases h : p = (a, b)
    · simp [h]
    · have h' : (a, b) ≠ p := fun z => h z.symm
      simp [h, h']
theorem lay_prs {ts : List (Str × Str)} (h : ∀ t ∈ ts, okS t.1 ∧ okS t.2) : PyData.canLayAll0 (ts.map prD) = true := by
  induction ts with
  | nil => rfl
  | cons p r ih =>
    rw [List.map_cons]
    simp only [PyData.canLayAll0, Bool.and_eq_true]
    have := h p List.mem_cons_self
    refine ⟨?_, ih fun t ht => h t (List.mem_cons_of_mem _ ht)⟩
    simp only [prD, PyData.canLay0, PyData.canLayAll0, Bool.and_true, Bool.and_eq_true]
    exact ⟨this.1, this.2⟩
theorem look_pr {a b : Str} (ha : okS a) (hb : okS b) : Look (.tuple [.str a, .str b]) := by
  refine ⟨?_, by simp [PyData.depth, PyData.depthAll]⟩
  simp only [PyData.canLay0, PyData.canLayAll0, Bool.and_true, Bool.and_eq_true]
  exact ⟨ha, hb⟩
/-- what a def that changes nothing gives for data -/
abbrev aPure (F : List PyData → PyData → Prop) : ASp := fun ds m P _ => ∃ xs d, ds = xs.map .im ∧ F xs d ∧ P (.im d) m
end Ab
end

section
set_option maxRecDepth 100000
set_option maxHeartbeats 4000000
/-! Texts in order. -/
namespace Ab
open PySem PySem.Spec PyProof.Rows L2 Gd
def sLt (x y : Str) : Prop := x.cps.toList < y.cps.toList
abbrev Asc (ss : List Str) : Prop := ss.Pairwise sLt
theorem sLt.ne {x y : Str} (h : sLt x y) : x ≠ y := fun e => by subst e; exact List.lt_irrefl _ h
theorem sLt.tr {x y z : Str} (h : sLt x y) (g : sLt y z) : sLt x z := List.lt_trans h g
theorem sLt.tot {x y : Str} (h : ¬ sLt x y) (n : x ≠ y) : sLt y x := by
  rcases Std.lt_trichotomy x.cps.toList y.cps.toList with z | z | z
  · exact absurd z h
  · exact absurd (by cases x; cases y; simp only [Str.mk.injEq]; exact Array.toList_inj.mp z) n
  · exact z
theorem Asc.nodup {ss : List Str} (h : Asc ss) : ss.Nodup := h.imp fun z => z.ne
def ordS (a b : Str) : Bool := !decide (b.cps.toList < a.cps.toList)
theorem sort_strs (ss : List Str) : sortD (ss.map .str) = (ss.mergeSort ordS).map .str := by
  unfold sortD
  symm
  exact List.map_mergeSort fun a _ b _ => by
    show _ = !(W.dataLt (.str b) (.str a))
    rw [W.dataLt_str]; rfl
theorem asc_sort {ss : List Str} (nd : ss.Nodup) : Asc (ss.mergeSort ordS) := by
  have h := List.pairwise_mergeSort (le := ordS) (fun a b c h1 h2 => by
    simp only [ordS, Bool.not_eq_true', decide_eq_false_iff_not] at *
    intro h
    by_cases e : b.cps.toList < a.cps.toList
    · exact h1 e
    · by_cases e2 : c.cps.toList < b.cps.toList
      · exact h2 e2
      · rcases Std.lt_trichotomy a.cps.toList b.cps.toList with z | z | z
        · exact h2 (List.lt_trans h z)
        · rw [z] at h; exact h2 h
        · exact h1 z) (fun a b => by
    simp only [ordS, Bool.or_eq_true, Bool.not_eq_true', decide_eq_false_iff_not]
    by_cases e : b.cps.toList < a.cps.toList
    · exact .inr (List.lt_asymm e)
    · exact .inl e) ss
  have n2 : (ss.mergeSort ordS).Nodup := (List.mergeSort_perm _ _).nodup_iff.mpr nd
  have := h.and n2
  exact this.imp fun {a b} z => by
    have h1 := z.1
    simp only [ordS, Bool.not_eq_true', decide_eq_false_iff_not] at h1
    exact (show sLt a b from sLt.tot (x := b) (y := a) h1 (fun e => z.2 e.symm))
theorem alike_strs (ss : List Str) : W.AllAlike (ss.map .str) := W.AllAlike.of fun _ _ => by simp [W.alike]
theorem sortable_strs (ss : List Str) : W.Sortable (ss.map .str) := W.Sortable.others fun _ => ⟨by simp, by simp⟩
theorem shallow_strs (ss : List Str) : ∀ x ∈ ss.map PyData.str, x.depth ≤ 60 := fun x h => by
  obtain ⟨y, _, rfl⟩ := List.mem_map.mp h
  simp [PyData.depth]
theorem lay_strs {ss : List Str} (h : ∀ s ∈ ss, okS s) : PyData.canLayAll0 (ss.map .str) = true := by
  induction ss with
  | nil => rfl
  | cons p r ih =>
    rw [List.map_cons]
    simp only [PyData.canLayAll0, Bool.and_eq_true]
    exact ⟨by simp only [PyData.canLay0]; exact h p List.mem_cons_self, ih fun t ht => h t (List.mem_cons_of_mem _ ht)⟩
theorem any_str (ss : List Str) (a : Str) : ((ss.map PyData.str).any fun y => PyData.eqv y (.str a)) = decide (a ∈ ss) := by
  induction ss with
  | nil => rfl
  | cons p r ih =>
    rw [List.map_cons, List.any_cons, ih, eqv_str]
    by_cases h : p = a
    · simp [h]
    · have h' : a ≠ p := fun z => h z.symm
      simp [h, h']
theorem look_str {a : Str} (ha : okS a) : Look (.str a) := ⟨by simp only [PyData.canLay0]; exact ha, by simp [PyData.depth]⟩
theorem okS_app {x y : Str} (hx : okS x) (hy : okS y) : okS (x ++ y) := by
  show PyData.strOk (x ++ y) = true
  have e : (x ++ y).cps = x.cps ++ y.cps := rfl
  unfold okS PyData.strOk at *
  rw [e, Array.all_append, hx, hy]; rfl
/-- a name as the laws draw it -/
structure Nm (s : Str) : Prop where
  ok : okS s
  plain : ∀ c ∈ s.cps.toList, c < 128
  len : s.length ≤ 20
/-- a network as the laws draw it -/
structure NetV (ss : List Str) (ts : List (Str × Str)) : Prop where
  s : ∀ s ∈ ss, Nm s
  ls : ss.length ≤ 26
  asc : Asc ss
  lt : ts.length ≤ 40
  t : ∀ t ∈ ts, t.1 ∈ ss ∧ t.2 ∈ ss ∧ sLt t.1 t.2
theorem NetV.ok {ss : List Str} {ts : List (Str × Str)} (h : NetV ss ts) : NetOk ss ts := ⟨fun s hs => (h.s s hs).ok, fun t ht => ⟨(h.s _ (h.t t ht).1).ok, (h.s _ (h.t t ht).2.1).ok⟩, by have := h.ls; omega, by have := h.lt; omega, h.asc.nodup⟩
/-! ### how large they are -/
theorem wts_le {b : Nat} : ∀ {xs : List PyData}, (∀ x ∈ xs, wt x ≤ b) → wts xs ≤ xs.length * (b + 1)
  | [], _ => by simp [wts]
  | x :: r, h => by
    have h1 := h x List.mem_cons_self
    have h2 := wts_le (xs := r) fun y hy => h y (List.mem_cons_of_mem _ hy)
    rw [wts, List.length_cons, Nat.add_mul]
    omega
theorem depths_le {b : Nat} : ∀ {xs : List PyData}, (∀ x ∈ xs, x.depth ≤ b) → PyData.depthAll xs ≤ b
  | [], _ => by simp [PyData.depthAll]
  | x :: r, h => by
    have h1 := h x List.mem_cons_self
    have h2 := depths_le (xs := r) fun y hy => h y (List.mem_cons_of_mem _ hy)
    simp only [PyData.depthAll]
    omega
theorem big400 : 10 ^ 40 < 2 ^ 400 := by decide +kernel
/-- what repr asks of data -/
theorem repr_ok {d : PyData} {W : Nat} (g : good (10 ^ 40) d) (hw : wt d ≤ W) (hW : W ≤ 1000000) (hd : d.depth ≤ 100) : d.showable = true ∧ d.depth ≤ 100 ∧ d.shown.length ≤ sizeLine := by
  have h := shown_le big400 g
  exact ⟨good.showable big400 g, hd, by rw [sizeLine_eq]; omega⟩
theorem good_strs {ss : List Str} (h : ∀ s ∈ ss, Nm s) : goods (10 ^ 40) (ss.map .str) := goods_iff.mpr fun x hx => by
  obtain ⟨s, hs, rfl⟩ := List.mem_map.mp hx
  exact (h s hs).plain
theorem wt_strs {ss : List Str} (h : ∀ s ∈ ss, Nm s) : wts (ss.map .str) ≤ ss.length * 22 := by
  have := wts_le (b := 21) (xs := ss.map .str) fun x hx => by
    obtain ⟨s, hs, rfl⟩ := List.mem_map.mp hx
    have := (h s hs).len
    simp only [wt]; omega
  simpa using this
theorem NetV.repr {ss : List Str} {ts : List (Str × Str)} (h : NetV ss ts) : (netD ss ts).showable = true ∧ (netD ss ts).depth ≤ 100 ∧ (netD ss ts).shown.length ≤ sizeLine := by
  have ht : ∀ t ∈ ts, Nm t.1 ∧ Nm t.2 := fun t ht => ⟨h.s _ (h.t t ht).1, h.s _ (h.t t ht).2.1⟩
  have h1 := wt_strs h.s
  have h2 := wts_le (b := 50) (xs := ts.map prD) fun x hx => by
    obtain ⟨t, ht', rfl⟩ := List.mem_map.mp hx
    have a := (ht t ht').1.len
    have b := (ht t ht').2.len
    simp only [wt, wts]; omega
  have l1 := h.ls
  have l2 := h.lt
  rw [List.length_map] at h2
  refine repr_ok (W := 10000) ⟨good_strs h.s, ?_, trivial⟩ ?_ (by decide) ?_
  · exact goods_iff.mpr fun x hx => by
      obtain ⟨t, ht', rfl⟩ := List.mem_map.mp hx
      exact ⟨(ht t ht').1.plain, (ht t ht').2.plain, trivial⟩
  · simp only [wt, wts]; omega
  · have d1 : PyData.depthAll (ss.map .str) ≤ 1 := depths_le fun x hx => by
      obtain ⟨s, _, rfl⟩ := List.mem_map.mp hx
      simp [PyData.depth]
    have d2 : PyData.depthAll (ts.map prD) ≤ 2 := depths_le fun x hx => by
      obtain ⟨t, _, rfl⟩ := List.mem_map.mp hx
      simp [PyData.depth, PyData.depthAll]
    simp only [PyData.depth, PyData.depthAll]; omega
end Ab
end

section
set_option maxRecDepth 100000
set_option maxHeartbeats 4000000
/-! Dicts by service. -/
namespace Ab
open PySem PySem.Spec PyProof.Rows L2 Gd
theorem look_map {ss : List Str} {f : Str → AV} {a : Str} (h : a ∈ ss) : lookA (ss.map fun a => ((.inr a : Key), f a)) (.inr a) = some (f a) := by
  induction ss with
  | nil => cases h
  | cons b r ih =>
    by_cases e : b = a
    · subst e; simp [lookA]
    · have e2 : ¬ (Sum.inr b : Key) = Sum.inr a := fun z => e (Sum.inr.inj z)
      have := ih ((List.mem_cons.mp h).resolve_left fun z => e z.symm)
      simpa [lookA, List.find?_cons, e2, e] using this
theorem get_idx {α : Type} {ss : List Str} {G : Str → α} {a : Str} (h : a ∈ ss) : (ss.map G)[ss.idxOf a]? = some (G a) := by
  rw [List.getElem?_map, List.getElem?_eq_getElem (List.idxOf_lt_length_of_mem h), List.getElem_idxOf]; rfl
theorem set_idx {α : Type} {ss : List Str} {G : Str → α} {a : Str} (nd : ss.Nodup) (c : α) : (ss.map G).set (ss.idxOf a) c = ss.map fun b => if b = a then c else G b := by
  induction ss with
  | nil => rfl
  | cons b r ih =>
    have n2 := List.nodup_cons.mp nd
    by_cases e : b = a
    · subst e
      rw [List.idxOf_cons_self, List.map_cons, List.set_cons_zero, List.map_cons, if_pos rfl]
      congr 1
      refine List.map_congr_left fun x hx => ?_
      rw [if_neg (fun z : x = b => n2.1 (z ▸ hx))]
    · rw [List.idxOf_cons, show (b == a) = false by simpa using e, cond_false, List.map_cons, List.set_cons_succ, ih n2.2, List.map_cons, if_neg e]
theorem merge_new {kvs more : List (Key × AV)} (h : ((kvs ++ more).map (·.1)).Nodup) : mergeA kvs more = kvs ++ more := by
  induction more generalizing kvs with
  | nil => simp [mergeA]
  | cons p r ih =>
    have nk : p.1 ∉ kvs.map (·.1) := by
      rw [List.map_append, List.map_cons] at h
      exact fun z => (List.nodup_append.mp h).2.2 _ z _ List.mem_cons_self rfl
    show mergeA (putA kvs p.1 p.2) r = _
    rw [putA_new nk, ih (by simpa using h)]
    simp
theorem merge_map {ss : List Str} {f : Str → AV} (nd : ss.Nodup) : mergeA [] (ss.map fun a => ((.inr a : Key), f a)) = ss.map fun a => ((.inr a : Key), f a) := by
  rw [merge_new, List.nil_append]
  rw [List.nil_append, List.map_map]
  exact nodup_map (fun _ _ h => Sum.inr.inj h) nd
theorem pairs_map {f : Str → AV} : ∀ ss : List Str, pairsA (ss.map fun a => .pr (.im (.str a)) (f a)) = some (ss.map fun a => ((.inr a : Key), f a))
  | [] => rfl
  | a :: r => by rw [List.map_cons, pairsA, pairs_map r]; rfl
/-- the services that talk with a, in the order of the talks -/
def nbrs (ts : List (Str × Str)) (a : Str) : List Str := ts.flatMap fun t => if t.1 = a then [t.2] else if t.2 = a then [t.1] else []
theorem mem_nbrs {ts : List (Str × Str)} {a b : Str} (h : ∀ t ∈ ts, t.1 ≠ t.2) : b ∈ nbrs ts a ↔ talk ts a b = true := by
  unfold nbrs talk
  rw [List.mem_flatMap, Bool.or_eq_true, decide_eq_true_eq, decide_eq_true_eq]
  constructor
  · rintro ⟨⟨x, y⟩, ht, hb⟩
    simp only at hb
    split at hb
    · rename_i e; subst e; rw [List.mem_singleton.mp hb]; exact .inl ht
    · split at hb
      · rename_i e; subst e; rw [List.mem_singleton.mp hb]; exact .inr ht
      · cases hb
  · rintro (h1 | h1)
    · exact ⟨_, h1, by simp⟩
    · refine ⟨_, h1, ?_⟩
      have := h _ h1
      simp [this]
theorem nbrs_snoc (ts : List (Str × Str)) (t : Str × Str) (a : Str) : nbrs (ts ++ [t]) a = nbrs ts a ++ (if t.1 = a then [t.2] else if t.2 = a then [t.1] else []) := by
  simp [nbrs, List.flatMap_append]
theorem nbrs_len (ts : List (Str × Str)) (a : Str) : (nbrs ts a).length ≤ ts.length := by
  induction ts with
  | nil => simp [nbrs]
  | cons t r ih =>
    have e : nbrs (t :: r) a = (if t.1 = a then [t.2] else if t.2 = a then [t.1] else []) ++ nbrs r a := by simp [nbrs]
    have h : (if t.1 = a then [t.2] else if t.2 = a then [t.1] else []).length ≤ 1 := by
      split
      · exact Nat.le_refl _
      · split <;> simp
    rw [e, List.length_append, List.length_cons]
    omega
theorem nb_get {m rest : Store} {ss : List Str} {G : Str → Cell} {a : Str} (h : a ∈ ss) : (m ++ (ss.map G ++ rest))[m.length + ss.idxOf a]? = some (G a) := by
  rw [List.getElem?_append_right (by omega), Nat.add_sub_cancel_left, List.getElem?_append_left (by simpa using List.idxOf_lt_length_of_mem h), get_idx h]
theorem nb_set {m rest : Store} {ss : List Str} {G : Str → Cell} {a : Str} (h : a ∈ ss) (nd : ss.Nodup) (c : Cell) : (m ++ (ss.map G ++ rest)).set (m.length + ss.idxOf a) c = m ++ ((ss.map fun b => if b = a then c else G b) ++ rest) := by
  rw [List.set_append_right _ _ (by omega), Nat.add_sub_cancel_left, List.set_append_left _ _ (by simpa using List.idxOf_lt_length_of_mem h), set_idx nd]
theorem idx_mid {d r : List Str} {a : Str} (nd : (d ++ a :: r).Nodup) : (d ++ a :: r).idxOf a = d.length := by
  have h : a ∉ d := fun z => (List.nodup_append.mp nd).2.2 _ z _ List.mem_cons_self rfl
  rw [List.idxOf_append, if_neg h, List.idxOf_cons_self, Nat.zero_add]
end Ab
end

section
set_option maxRecDepth 100000
set_option maxHeartbeats 4000000
/-! Readings over data: what is never reached; sorted(set(..)). -/
namespace Ab
open PySem PySem.Spec PyProof.Rows L2 Gd
section
variable {X : Cx} {B : Bk}
/-- a statement that is never reached -/
theorem s_dead {st : Stmt} : AS X B st (fun _ _ _ => False) (fun _ _ _ => False) := ⟨⟨fun _ _ _ _ _ _ h => h.elim⟩, fun _ _ _ _ _ _ _ _ _ _ _ h _ => h.elim⟩
variable {e : Expr} {tl : TA} {wl : WL} {K : PySem.W.Frag} {w : World} {p p2 pos pos2 : Pos}
theorem reps_ints {M : List Addr} {H : Hp} : ∀ ns : List Int, Reps M H (ns.map V.int) (ns.map .int)
  | [] => .nil
  | n :: r => .cons (.int _) (reps_ints r)
theorem ints_of {M : List Addr} {H : Hp} : ∀ {us : List V} {ns : List Int}, Reps M H us (ns.map .int) → us = ns.map V.int
  | _, [], .nil => rfl
  | _, n :: r, .cons (.int _) t => by rw [ints_of t]; rfl
/-- the whole numbers of a list, each once, ascending -/
def gSortSet : GL := fun ds m P => match ds with
  | [d] => (match asL d m with
    | some xs => ∃ ns : List Int, xs = ns.map .int ∧ ns.length < 64 ∧ ∀ ms : List Int, ms.Pairwise (· < ·) → (∀ k, k ∈ ms ↔ k ∈ ns) → ms.length ≤ ns.length → P (.wl (ms.map .int)) m
    | none => False)
  | _ => False
theorem ae_sortSet (hK : X.K = K) (hw : X.w = w) (hc : X.calm = true) (hg : Gl X "sorted") (hm : X.mg "sorted" = none) (hg2 : Gl X "set") (hm2 : X.mg "set" = none) (ha : AL X B [e] tl wl)
    (he2 : starEach [e] X.env = (false, eval e X.env) :: starEach [] X.env := by rfl) (hpl2 : (backTo pos2 (starEach [] X.env)).any (·.1) = false := by rfl)
    (he : starEach [.Call (.Name "set" p2) [e] [] pos2] X.env = (false, eval (.Call (.Name "set" p2) [e] [] pos2) X.env) :: starEach [] X.env := by rfl) (hpl : (backTo pos (starEach [] X.env)).any (·.1) = false := by rfl) :
    AE X B (.Call (.Name "sorted" p) [.Call (.Name "set" p2) [e] [] pos2] [] pos) (tCB (rSortedSet w) (tCons (tCB (rSetI K w) tl) tNil)) (wCB gSortSet wl) :=
  ⟨pe_callB (hw ▸ cr_sortedSet hc) hg hm (by decide +kernel) (pa_cons (pe_callTy (cr_setI hK hw hc) hg2 hm2 (by decide +kernel) ha.pa (by decide) (by decide) he2 hpl2) pa_nil) (by decide) (by decide) he hpl,
   fun N M H σ ρ m P Q x0 S R hw' q => ha.la N M H σ ρ m _ _ x0 S R hw' fun vs ds M1 H1 m1 x1 R1 r1 h1 => by
    unfold gSortSet at h1
    split at h1
    · obtain ⟨v, rfl, rv⟩ := val1 r1
      split at h1
      · rename_i xs ex
        obtain ⟨ns, rfl, few, h1⟩ := h1
        obtain ⟨a, us, rfl, ha', z⟩ := asL_of R1 rv ex
        rw [ints_of z] at ha'
        refine ⟨a, ns, rfl, .inl (.inl ha'), by omega, fun p c hp hc' => ⟨p, _, c, rfl, upd_same, by omega, fun ms p2 pw mem len hp2 => ?_⟩⟩
        have R2 := R1.alloc (o := SetO w p (fun j => decide (j ∈ ns)) c) hp
        obtain ⟨x', R', r'⟩ := new_wl R2 hp2 (reps_ints ms)
        exact q _ _ M1 _ m1 (x1.trans ((Ext.alloc hp).trans x')) R' r' (h1 ms pw (fun k => (mem k).trans (by simp)) (by omega))
      · exact h1.elim
    · exact h1.elim⟩
end
end Ab
end

section
set_option maxRecDepth 100000
set_option maxHeartbeats 4000000
/-! Catalogs as data. -/
namespace Ab
open PySem PySem.Spec PyProof.Rows L2 Gd
abbrev rowD (r : Str × List Int) : PyData := .tuple [.str r.1, .tuple (r.2.map .int)]
abbrev catD (rows : List (Str × List Int)) : PyData := .tuple (rows.map rowD)
structure RowV (r : Str × List Int) : Prop where
  nm : Nm r.1
  asc : r.2.Pairwise (· < ·)
  ne : r.2 ≠ []
  len : r.2.length ≤ 3
  bd : ∀ v ∈ r.2, 0 ≤ v ∧ v < 1000000000
structure CatV (rows : List (Str × List Int)) : Prop where
  r : ∀ r ∈ rows, RowV r
  asc : Asc (rows.map (·.1))
  len : rows.length ≤ 26
end Ab
end

section
set_option maxRecDepth 100000
set_option maxHeartbeats 4000000
/-! zip over two iterators of any kind, its tuples kept by who asks. -/
namespace Zk
open PySem PySem.Calls
section
variable {pr : Program} {w : World} {A : Around} {E : Value → Shared → Prop} {s : Shared} {z a b u v T : Addr} {f1 f2 : List Addr} {m n j : Nat} {P R : Nat → Value → Prop} {S1 S2 : Nat → Heap → Prop} {f : Bool} {oT : Obj}
theorem held_item {Q : Value → Shared → Prop} (S : ZipSep2 z a b u v f1 f2) (D : Draws pr w A u f1 m P S1) (G : Draws pr w A v f2 n R S2) (zz : IsZipHeld s.heap z a b T f) (tt : s.heap.get? T = some oT) (aa : IsTupOf2 s.heap a (.ref u) (.ref v)) (s1 : S1 j s.heap) (s2 : S2 j s.heap) (l1 : j < m) (l2 : j < n)
    (q : ∀ x y h' tk, P j x → R j y → IsZipHeld h' z a b T true → S1 (j + 1) h' → S2 (j + 1) h' → IsTupOf2 h' s.heap.objs.size x y → h'.objs.size = s.heap.objs.size + 1 → (∀ c o, c ≠ z → c ≠ u → c ≠ v → s.heap.get? c = some o → h'.get? c = some o) → Q (.ref s.heap.objs.size) { s with heap := h', toks := tk }) :
    wpAny (model pr w) A (Builtin.«zip.__next__» ⟨[.ref z], []⟩) (fun fin s' => ∃ r, fin = .done (.ret r) ∧ Q r s') E s := by
  obtain ⟨h0, g0, d0, k0, os0⟩ := s
  show wpAny _ _ (field (.ref z) 2 >>= _) _ _ _
  refine wpAny_bind (wpAny_field zz rfl (x := .bool false) rfl ?_)
  show wpAny _ _ (field (.ref z) 3 >>= _) _ _ _
  refine wpAny_bind (wpAny_field zz rfl (x := .ref a) rfl ?_)
  refine wpAny_bind (wpAny_seqItems aa rfl ?_)
  show wpAny _ _ (Builtin.SmallTypes.ownedTupleIsFree (.ref z) >>= _) _ _ _
  refine wpAny_bind (wpAny_tupleHeld_zip zz tt fun h1 z1 e1 => ?_)
  simp only [if_false, Bool.false_eq_true]
  refine wpAny_bind ?_
  rw [← Array.forIn_toList]
  simp only [List.forIn_nil, List.forIn_cons]
  refine wpAny_bind (wpAny_bind (wpAny_holding ?_))
  show wpAny _ _ (Builtin.SmallTypes.nextOf (.ref u) >>= _) _ _ ⟨h1, g0, d0, k0, os0⟩
  refine wpAny_bind (D.item j _ _ _ l1 (D.over s1 e1 S.zf1) fun x h2 k2 px t1 e2 => wpAny_pure ?_)
  refine wpAny_pure ?_
  refine wpAny_bind (wpAny_bind (wpAny_holding ?_))
  show wpAny _ _ (Builtin.SmallTypes.nextOf (.ref v) >>= _) _ _ ⟨h2, g0, d0, k2, os0⟩
  refine wpAny_bind (G.item j _ _ _ l2 (G.over (G.over s2 e1 S.zf2) e2 S.sep1_2) fun y h3 k3 py t2 e3 => wpAny_pure ?_)
  refine wpAny_pure (wpAny_pure ?_)
  replace e1 : Heap.SameBut z h0 h1 := e1
  replace e2 : Heap.SameBut u h1 h2 := e2
  replace e3 : Heap.SameBut v h2 h3 := e3
  show wpAny _ _ (newTuple [x, y] >>= _) _ _ _
  refine wpAny_bind (wpAny_newTuple ?_)
  have sz : h3.objs.size = h0.objs.size := by rw [e3.1, e2.1, e1.1]
  have z3 : IsZipHeld h3 z a b T true := e3.extBut _ _ S.zi2 (e2.extBut _ _ S.zi1 z1)
  have kk : ∀ c o, c ≠ z → c ≠ u → c ≠ v → h0.get? c = some o → h3.get? c = some o := fun c o c1 c2 c3 e => e3.extBut _ _ c3 (e2.extBut _ _ c2 (e1.extBut _ _ c1 e))
  have t1' := D.over t1 e3 S.sep2_1
  refine wpAny_pure ⟨_, rfl, ?_⟩
  show Q (.ref h3.objs.size) _
  have new : IsTupOf2 (h3.push { cls := .type "tuple", data := .seq #[x, y] }) h3.objs.size x y := Heap.get?_push_size _ rfl
  have sz2 : (h3.push { cls := .type "tuple", data := .seq #[x, y] }).objs.size = h3.objs.size + 1 := Heap.size_push ..
  rw [sz] at new sz2 ⊢
  exact q x y _ k3 px py (Heap.get?_push_of_some _ z3) (D.frame _ _ _ t1' fun c _ o e => Heap.get?_push_of_some _ e) (G.frame _ _ _ t2 fun c _ o e => Heap.get?_push_of_some _ e) new sz2 fun c o c1 c2 c3 e => Heap.get?_push_of_some _ (kk c o c1 c2 c3 e)
theorem held_end {Q : Fin → Shared → Prop} (S : ZipSep2 z a b u v f1 f2) (D : Draws pr w A u f1 m P S1) (G : Draws pr w A v f2 n R S2) (zz : IsZipHeld s.heap z a b T f) (tt : s.heap.get? T = some oT) (aa : IsTupOf2 s.heap a (.ref u) (.ref v)) (s1 : S1 j s.heap) (s2 : S2 j s.heap) (l1 : j ≤ m) (l2 : j ≤ n) (le : j = m ∨ j = n)
    (q : ∀ h' tk e, (∀ c o, c ≠ z → c ≠ u → c ≠ v → s.heap.get? c = some o → h'.get? c = some o) → (∃ o, h'.get? e = some o ∧ o.cls = .type "StopIteration") → E (.ref e) { s with heap := h', toks := tk }) :
    wpAny (model pr w) A (Builtin.«zip.__next__» ⟨[.ref z], []⟩) Q E s := by
  obtain ⟨h0, g0, d0, k0, os0⟩ := s
  show wpAny _ _ (field (.ref z) 2 >>= _) _ _ _
  refine wpAny_bind (wpAny_field zz rfl (x := .bool false) rfl ?_)
  show wpAny _ _ (field (.ref z) 3 >>= _) _ _ _
  refine wpAny_bind (wpAny_field zz rfl (x := .ref a) rfl ?_)
  refine wpAny_bind (wpAny_seqItems aa rfl ?_)
  show wpAny _ _ (Builtin.SmallTypes.ownedTupleIsFree (.ref z) >>= _) _ _ _
  refine wpAny_bind (wpAny_tupleHeld_zip zz tt fun h1 z1 e1 => ?_)
  simp only [if_false, Bool.false_eq_true]
  refine wpAny_bind ?_
  rw [← Array.forIn_toList]
  simp only [List.forIn_nil, List.forIn_cons]
  refine wpAny_bind (wpAny_bind (wpAny_holding ?_))
  show wpAny _ _ (Builtin.SmallTypes.nextOf (.ref u) >>= _) _ _ ⟨h1, g0, d0, k0, os0⟩
  replace e1 : Heap.SameBut z h0 h1 := e1
  by_cases lt : j < m
  · have en : j = n := by omega
    refine wpAny_bind (D.item j _ _ _ lt (D.over s1 e1 S.zf1) fun x h2 k2 px t1 e2 => wpAny_pure ?_)
    refine wpAny_pure ?_
    refine wpAny_bind (wpAny_bind (wpAny_holding ?_))
    show wpAny _ _ (Builtin.SmallTypes.nextOf (.ref v) >>= _) _ _ ⟨h2, g0, d0, k2, os0⟩
    replace e2 : Heap.SameBut u h1 h2 := e2
    subst en
    exact wpAny_bind (G.done _ _ _ (G.over (G.over s2 e1 S.zf2) e2 S.sep1_2) fun h3 e e3 he => q h3 k2 e (fun c o c1 c2 c3 x => e3 _ _ c3 (e2.extBut _ _ c2 (e1.extBut _ _ c1 x))) he)
  · have em : j = m := by omega
    subst em
    exact wpAny_bind (D.done _ _ _ (D.over s1 e1 S.zf1) fun h2 e e2 he => q h2 k0 e (fun c o c1 c2 _ x => e2 _ _ c2 (e1.extBut _ _ c1 x)) he)
theorem next_item {Q : Option Value → Shared → Prop} (S : ZipSep2 z a b u v f1 f2) (D : Draws pr w A.in1 u f1 m P S1) (G : Draws pr w A.in1 v f2 n R S2) (zz : IsZipHeld s.heap z a b T f) (tt : s.heap.get? T = some oT) (aa : IsTupOf2 s.heap a (.ref u) (.ref v)) (s1 : S1 j s.heap) (s2 : S2 j s.heap) (l1 : j < m) (l2 : j < n)
    (q : ∀ x y h' tk, P j x → R j y → IsZipHeld h' z a b T true → S1 (j + 1) h' → S2 (j + 1) h' → IsTupOf2 h' s.heap.objs.size x y → h'.objs.size = s.heap.objs.size + 1 → (∀ c o, c ≠ z → c ≠ u → c ≠ v → s.heap.get? c = some o → h'.get? c = some o) → Q (some (.ref s.heap.objs.size)) { s with heap := h', toks := tk }) :
    wpAny (model pr w) A (pyNext (.ref z)) Q E s := by
  have ty : s.TypeIs (.ref z) "zip" := ⟨_, zz, rfl⟩
  unfold pyNext
  exact wpAny_bind (wpAny_attempt (wpAny_callSpecial?_slot (name := Str.ofString "__next__") ty F.slot_zip_next
    (wpAny_call_entry F.slot_zip_next ty F.entry_zip_next (held_item S D G zz tt aa s1 s2 l1 l2 fun x y h' tk p1 p2 r1 r2 r3 r4 r5 r6 => wpAny_pure (q x y h' tk p1 p2 r1 r2 r3 r4 r5 r6)) (F.args_zip_next_1 _))))
theorem next_end {Q : Option Value → Shared → Prop} (S : ZipSep2 z a b u v f1 f2) (D : Draws pr w A.in1 u f1 m P S1) (G : Draws pr w A.in1 v f2 n R S2) (zz : IsZipHeld s.heap z a b T f) (tt : s.heap.get? T = some oT) (aa : IsTupOf2 s.heap a (.ref u) (.ref v)) (s1 : S1 j s.heap) (s2 : S2 j s.heap) (l1 : j ≤ m) (l2 : j ≤ n) (le : j = m ∨ j = n)
    (q : ∀ h' tk, (∀ c o, c ≠ z → c ≠ u → c ≠ v → s.heap.get? c = some o → h'.get? c = some o) → Q none { s with heap := h', toks := tk }) : wpAny (model pr w) A (pyNext (.ref z)) Q E s := by
  have ty : s.TypeIs (.ref z) "zip" := ⟨_, zz, rfl⟩
  unfold pyNext
  refine wpAny_bind (wpAny_attempt (wpAny_callSpecial?_slot (name := Str.ofString "__next__") ty F.slot_zip_next
    (wpAny_call_entry F.slot_zip_next ty F.entry_zip_next (held_end S D G zz tt aa s1 s2 l1 l2 le fun h' tk e k he => ?_) (F.args_zip_next_1 _))))
  obtain ⟨o, ho, hc⟩ := he
  exact wpAny_bind (wpAny_isInstance (T := "StopIteration") (b := true) ⟨o, ho, hc⟩ isSubtype_stop (wpAny_pure (q _ _ k)))
/-- what stands as the argument of dict(..): a zip of two tuples -/
abbrev ZOk (z a b u v t r : Addr) (xs ys : Array Value) (h : Heap) : Prop := IsZip h z a b .none ∧ IsTupOf2 h a (.ref u) (.ref v) ∧ (∃ p q, IsTupOf2 h b p q) ∧ (h.IsTupleIter u t 0 ∧ h.IsTuple t xs) ∧ h.IsTupleIter v r 0 ∧ h.IsTuple r ys
theorem pairs_zip (z a b u v t r : Addr) (xs ys : Array Value) (S : ZipSep2 z a b u v [u, t] [v, r]) (tu : t ≠ u) (rv : r ≠ v) :
    PairArg pr w "zip" z [z, a, b, u, v, t, r] [z, b, u, v] (min xs.size ys.size) (fun i k x => xs[i]? = some k ∧ ys[i]? = some x) (ZOk z a b u v t r xs ys) := by
  refine { type := fun s ok => ⟨_, ok.1, rfl⟩, notDict := by decide, keep := ?_, there := ?_, sub := ?_, noKeys := fun A s Q E hA ok h => getAttrOr_miss_zip ok.1 rfl rfl rfl zip_no_keys (by decide +kernel) hA h, iter := ?_ }
  · rintro h h' ⟨o1, o2, ⟨p, q, o3⟩, ⟨o4, o5⟩, o6, o7⟩ k
    exact ⟨k _ _ o1, k _ _ o2, ⟨p, q, k _ _ o3⟩, ⟨o4.at fun o e => k _ o e, o5.at fun o e => k _ o e⟩, o6.at fun o e => k _ o e, o7.at fun o e => k _ o e⟩
  · rintro h ⟨o1, o2, ⟨p, q, o3⟩, ⟨⟨c4, o4, _⟩, ⟨c5, o5, _⟩⟩, ⟨c6, o6, _⟩, ⟨c7, o7, _⟩⟩ c hc
    simp only [List.mem_cons, List.not_mem_nil, or_false] at hc
    rcases hc with e | e | e | e | e | e | e
    all_goals rw [e]
    · exact ⟨_, o1⟩
    · exact ⟨_, o2⟩
    · exact ⟨_, o3⟩
    · exact ⟨_, o4⟩
    · exact ⟨_, o6⟩
    · exact ⟨_, o5⟩
    · exact ⟨_, o7⟩
  · intro c hc
    simp only [List.mem_cons, List.not_mem_nil, or_false] at hc ⊢
    rcases hc with e | e | e | e <;> simp [e]
  · rintro A s d Q E hA ⟨o1, o2, ⟨p, q, o3⟩, i1, i2⟩ hd hdf h
    simp only [List.mem_cons, List.not_mem_nil, or_false, not_or] at hdf
    obtain ⟨dz, da, db, du, dv, dt, dr⟩ := hdf
    have D := Draws.tuple (prog := pr) (w := w) (A := A.in1) hA u t tu xs
    have G := Draws.tuple (prog := pr) (w := w) (A := A.in1) hA v r rv ys
    refine wpAny_pyIter_zip o1 (h z [z, b, u, v] (fun i h => IsTupOf2 h a (.ref u) (.ref v) ∧ (h.IsTupleIter u t i ∧ h.IsTuple t xs) ∧ (h.IsTupleIter v r i ∧ h.IsTuple r ys) ∧
      ((IsZip h z a b .none ∧ ∃ p q, IsTupOf2 h b p q) ∨ ∃ T f oT, IsZipHeld h z a b T f ∧ h.get? T = some oT ∧ T ≠ z ∧ T ≠ u ∧ T ≠ v ∧ T ≠ d)) s.heap s.toks ?_ ⟨o2, i1, i2, .inl ⟨o1, p, q, o3⟩⟩ (fun _ _ e => e) fun c hc => .inl hc)
    refine { off := ?_, frame := ?_, item := ?_, done := ?_ }
    · simp [dz, db, du, dv]
    · rintro i g g' ⟨q2, ⟨q3, q4⟩, ⟨q5, q6⟩, q7⟩ k
      refine ⟨k _ _ (Ne.symm da) q2, ⟨q3.at fun o e => k _ o (Ne.symm du) e, q4.at fun o e => k _ o (Ne.symm dt) e⟩, ⟨q5.at fun o e => k _ o (Ne.symm dv) e, q6.at fun o e => k _ o (Ne.symm dr) e⟩, ?_⟩
      rcases q7 with ⟨q7, x, y, q8⟩ | ⟨T, f, oT, q7, q8, n1, n2, n3, n4⟩
      · exact .inl ⟨k _ _ (Ne.symm dz) q7, x, y, k _ _ (Ne.symm db) q8⟩
      · exact .inr ⟨T, f, oT, k _ _ (Ne.symm dz) q7, k _ _ n4 q8, n1, n2, n3, n4⟩
    · rintro i s1 Q1 E1 hi ⟨q2, q3, q5, q7⟩ hds hQ
      have l1 : i < xs.size := Nat.lt_of_lt_of_le hi (Nat.min_le_left ..)
      have l2 : i < ys.size := Nat.lt_of_lt_of_le hi (Nat.min_le_right ..)
      have old : ∀ {c o}, s1.heap.get? c = some o → s1.heap.objs.size ≠ c := fun e => Nat.ne_of_gt (Heap.lt_size e)
      have nu : s1.heap.objs.size ≠ u := let ⟨_, e, _⟩ := q3.1; old e
      have nv : s1.heap.objs.size ≠ v := let ⟨_, e, _⟩ := q5.1; old e
      rcases q7 with ⟨q7, x0, y0, q8⟩ | ⟨T, f, oT, q7, q8, n1, n2, n3, n4⟩
      · refine wpAny_pyNext_zipD2_item S D G q7 q2 q8 q3 q5 l1 l2 fun x y h' tk px py z1 b1 c1 c2 t1 sz k => ?_
        exact hQ s1.heap.objs.size x y h' tk ⟨px, py⟩ (.inl ⟨_, t1, rfl, _, rfl⟩) ⟨k _ _ S.TIz S.TITO S.TIi1 S.TIi2 q2, c1, c2, .inr ⟨s1.heap.objs.size, false, _, z1, t1, old q7, nu, nv, Nat.ne_of_gt hds⟩⟩ fun c o hc e => k c o (fun x => hc (by simp [x])) (fun x => hc (by simp [x])) (fun x => hc (by simp [x])) (fun x => hc (by simp [x])) e
      · refine next_item S D G q7 q8 q2 q3 q5 l1 l2 fun x y h' tk px py z1 c1 c2 t1 sz k => ?_
        exact hQ s1.heap.objs.size x y h' tk ⟨px, py⟩ (.inl ⟨_, t1, rfl, _, rfl⟩) ⟨k _ _ S.TIz S.TIi1 S.TIi2 q2, c1, c2, .inr ⟨T, true, oT, z1, k _ _ n1 n2 n3 q8, n1, n2, n3, n4⟩⟩ fun c o hc e => k c o (fun x => hc (by simp [x])) (fun x => hc (by simp [x])) (fun x => hc (by simp [x])) e
    · rintro s1 Q1 E1 ⟨q2, q3, q5, q7⟩ hQ
      have e : min xs.size ys.size = xs.size ∨ min xs.size ys.size = ys.size := by omega
      rcases q7 with ⟨q7, x0, y0, q8⟩ | ⟨T, f, oT, q7, q8, n1, n2, n3, n4⟩
      · exact wpAny_pyNext_zipD2_end S D G q7 q2 q8 q3 q5 (Nat.min_le_left ..) (Nat.min_le_right ..) e fun h' tk k => hQ h' tk fun c o hc e => k c o (fun x => hc (by simp [x])) (fun x => hc (by simp [x])) (fun x => hc (by simp [x])) (fun x => hc (by simp [x])) e
      · exact next_end S D G q7 q8 q2 q3 q5 (Nat.min_le_left ..) (Nat.min_le_right ..) e fun h' tk k => hQ h' tk fun c o hc e => k c o (fun x => hc (by simp [x])) (fun x => hc (by simp [x])) (fun x => hc (by simp [x])) e
end
end Zk
end

section
set_option maxRecDepth 100000
set_option maxHeartbeats 4000000
/-! dict(zip(a, b)) of two tuples. -/
namespace Zk
open PySem PySem.Calls PySem.Spec PyProof.Rows L2
/-- the keys of a, each with what stands there in b -/
def tDictZip (K : PySem.W.Frag) (ta : TA) : TE := fun σ H Q => ta σ H fun xs H1 => ∃ (a b : Addr) (ks : List Key) (ws : List V), xs = [.ref a, .ref b] ∧ SqT K H1 a (ks.map kV) ∧ SqT K H1 b ws ∧ ∀ p, H1 p = none → Q (.ref p) (upd H1 p (.dK (mergeK [] (ks.zip ws))))
theorem kv_zip : ∀ {ks : List Key} {ws : List V} {us : List Value}, Vals ws us → KV (ks.zip ws) (ks.zip us)
  | [], _, _, _ => by simp only [List.zip_nil_left]; exact .nil
  | _ :: _, _, _, .nil => .nil
  | k :: r, _, _, .cons h t => .cons ⟨rfl, h⟩ (kv_zip t)
theorem vals_len : ∀ {ws : List V} {us : List Value}, Vals ws us → ws.length = us.length
  | _, _, .nil => rfl
  | _, _, .cons _ t => by rw [List.length_cons, List.length_cons, vals_len t]
theorem keys_at : ∀ {ks : List Key} {us : List Value} {i : Nat} {u : Value}, Vals (ks.map kV) us → us[i]? = some u → ∃ k, ks[i]? = some k ∧ RelV (kV k) u
  | [], us, i, u, r, h => by
    have r : Vals [] us := r
    cases r
    simp at h
  | k :: t, us, i, u, r, h => by
    rw [List.map_cons] at r
    cases r with
    | cons a b => cases i with
      | zero => exact ⟨k, rfl, by rw [← Option.some.inj h]; exact a⟩
      | succ i => simpa using keys_at b (by simpa using h)
section
variable {X : Cx} {e e2 : Expr} {ta : TA} {p p2 pos pos2 : Pos}
theorem pe_dictZip (hc : X.calm = true) (hg : Gl X "dict") (hm : X.mg "dict" = none) (hg2 : Gl X "zip") (hm2 : X.mg "zip" = none) (ha : PA X [e, e2] ta)
    (hs : starEach [e, e2] X.env = (false, eval e X.env) :: starEach [e2] X.env := by rfl) (hpl : (backTo pos2 (starEach [e2] X.env)).any (·.1) = false := by rfl)
    (he : starEach [.Call (.Name "zip" p2) [e, e2] [] pos2] X.env = (false, eval (.Call (.Name "zip" p2) [e, e2] [] pos2) X.env) :: starEach [] X.env := by rfl) (hpe : (backTo pos (starEach [] X.env)).any (·.1) = false := by rfl) :
    PE X (.Call (.Name "dict" p) [.Call (.Name "zip" p2) [e, e2] [] pos2] [] pos) (tDictZip X.K ta) := by
  refine ⟨fun pins s σ H Q I h => ?_⟩
  refine wpAny_Call_Name_kw (ld_blt I hg hm PyProof.Rows.boot_dict ?_ (by decide) (by decide))
  refine PyProof.Rows.callWith_type1 ?_ he hpe
  rw [he]
  show wpAny _ _ (spliced ((false, eval (.Call (.Name "zip" p2) [e, e2] [] pos2) X.env) :: backTo pos (starEach [] X.env))) _ _ s
  refine Calls.spliced_cons ?_
  refine Call_ (ld_blt I hg2 hm2 PyProof.Rows.boot_zip (PyProof.Rows.callWith_type1 (L2.thn (ha.run pos2 pins s σ H _ I h) fun us s1 ⟨vs, H1, I1, r1, q1⟩ => ?_) hs hpl))
  obtain ⟨a, b, ks, ws, ex, qa, qb, q⟩ := q1
  subst ex
  cases r1 with
  | cons r rr =>
    cases rr with
    | cons r' rr =>
      cases rr
      cases r
      cases r'
      obtain ⟨its, rv, p1, z1⟩ := I1.tuple qa
      obtain ⟨its2, rv2, p2, z2⟩ := I1.tuple qb
      obtain ⟨o1, ho1, _⟩ := id p1
      obtain ⟨o2, ho2, _⟩ := id p2
      refine RZ.call_zipT (show s1.heap.IsTuple a its.toArray from p1) (show s1.heap.IsTuple b its2.toArray from p2) fun h' hz hTI hTO h1 h2 hsz hk => ?_
      refine Calls.spliced_nil ?_
      have la : a < s1.heap.objs.size := Heap.lt_size ho1
      have lb : b < s1.heap.objs.size := Heap.lt_size ho2
      have lk : its.length = ks.length := by rw [← vals_len rv, List.length_map]
      have lw : its2.length = ws.length := (vals_len rv2).symm
      have S : ZipSep2 (s1.heap.objs.size + 4) (s1.heap.objs.size + 2) (s1.heap.objs.size + 3) s1.heap.objs.size (s1.heap.objs.size + 1) [s1.heap.objs.size, a] [s1.heap.objs.size + 1, b] := by
        have f : ∀ {c : Addr} (j : Nat), c < s1.heap.objs.size → s1.heap.objs.size + j ≠ c := fun j hc e => Nat.lt_irrefl _ (Nat.lt_of_le_of_lt (Nat.le_add_right _ j) (e ▸ hc))
        have f0 : ∀ {c : Addr}, c < s1.heap.objs.size → s1.heap.objs.size ≠ c := fun hc e => Nat.lt_irrefl _ (e ▸ hc)
        constructor <;> simp [f _ la, f _ lb, f0 la, f0 lb]
      have P1 : h'.IsTuple a its.toArray := ⟨_, hk _ _ ho1, (by obtain ⟨o, e, r⟩ := p1; rw [ho1] at e; cases e; exact r)⟩
      have P2 : h'.IsTuple b its2.toArray := ⟨_, hk _ _ ho2, (by obtain ⟨o, e, r⟩ := p2; rw [ho2] at e; cases e; exact r)⟩
      refine PySem.call_dict_pairs (knd := mixKind X.prog X.w) (kvs := ks.zip its2) (pairs_zip (pr := X.prog) (w := X.w) _ _ _ _ _ a b its.toArray its2.toArray S (Nat.ne_of_lt la) (Nat.ne_of_lt (Nat.lt_succ_of_lt lb))) (I.ok.hd hc) ⟨hz, hTI, ⟨_, _, hTO⟩, ⟨h1, P1⟩, h2, P2⟩ ⟨by simp [lk], fun i key v ⟨g1, g2⟩ => ?_⟩ ?_ fun h'' tk hd k => ?_
      · obtain ⟨kk, g3, g4⟩ := keys_at rv (i := i) (u := key) (by simpa using g1)
        refine ⟨kk, ?_, kV_is (P := X.prog) (w := X.w) g4⟩
        have g2' : its2[i]? = some v := by simpa using g2
        rw [List.getElem?_zip_eq_some]
        exact ⟨g3, g2'⟩
      · have : (List.map kV ks).length = ks.length := List.length_map ..
        simp only [List.size_toArray]
        omega
      · have k1 : ∀ c o, s1.heap.get? c = some o → h''.get? c = some o := fun c o e => k c o (fun m => by
          have := Heap.lt_size e
          simp only [List.mem_cons, List.not_mem_nil, or_false] at m
          rcases m with z | z | z | z <;> (rw [z] at this; exact absurd this (by first | exact Nat.not_lt.mpr (Nat.le_add_right _ _) | exact Nat.lt_irrefl _))) (hk c o e)
        have n5 : s1.heap.objs.size ≤ h'.objs.size := by omega
        have hm : (h'.objs.size == sysModules) = false := beq_eq_false_iff_ne.mpr (Nat.ne_of_gt (Nat.lt_of_lt_of_le I1.big n5))
        have rel := kv_zip (ks := ks) rv2
        have hlen : (mergeK [] (ks.zip ws)).length ≤ sizeLine := by
          have h3 := length_mergeK (ks.zip ws) []
          rw [List.length_map] at z1
          simp only [List.length_nil, List.length_zip] at h3
          omega
        exact ⟨.ref h'.objs.size, upd H1 h'.objs.size (.dK (mergeK [] (ks.zip ws))), I1.laid (t' := tk) k1 n5 (show ObjOk X.prog X.w _ _ _ (.dK (mergeK [] (ks.zip ws))) from ⟨hlen, hm, merged [] (ks.zip its2), KV.merge rel .nil, hd⟩), rfl, q _ (I1.hok.fresh n5)⟩
end
end Zk
end

section
set_option maxRecDepth 100000
set_option maxHeartbeats 4000000
/-! list(zip(a, b)) of two tuples. -/
namespace Zk
open PySem PySem.Calls
section
variable {pr : Program} {w : World} {A : Around} {R : Result → Shared → Prop} {z a b u v t r L : Addr} {xs ys : Array Value} {res : Value}
/-- the zip, i items on -/
def At (z a b u v t r L : Addr) (xs ys : Array Value) (i : Nat) (h : Heap) : Prop := IsTupOf2 h a (.ref u) (.ref v) ∧ (h.IsTupleIter u t i ∧ h.IsTuple t xs) ∧ (h.IsTupleIter v r i ∧ h.IsTuple r ys) ∧ (∃ p q, IsTupOf2 h b p q) ∧
  (IsZip h z a b .none ∨ ∃ T f oT, IsZipHeld h z a b T f ∧ h.get? T = some oT ∧ T ≠ z ∧ T ≠ u ∧ T ≠ v ∧ T ≠ L)
theorem At.over {i : Nat} {h h' : Heap} (q : At z a b u v t r L xs ys i h) (n : a ≠ L ∧ u ≠ L ∧ t ≠ L ∧ v ≠ L ∧ r ≠ L ∧ z ≠ L ∧ b ≠ L) (k : ∀ c o, c ≠ L → h.get? c = some o → h'.get? c = some o) : At z a b u v t r L xs ys i h' := by
  obtain ⟨q2, ⟨q3, q4⟩, ⟨q5, q6⟩, ⟨x, y, q8⟩, q7⟩ := q
  obtain ⟨n1, n2, n3, n4, n5, n6, n7⟩ := n
  refine ⟨k _ _ n1 q2, ⟨q3.at fun o e => k _ o n2 e, q4.at fun o e => k _ o n3 e⟩, ⟨q5.at fun o e => k _ o n4 e, q6.at fun o e => k _ o n5 e⟩, ⟨x, y, k _ _ n7 q8⟩, ?_⟩
  rcases q7 with q7 | ⟨T, f, oT, q7, q8, m1, m2, m3, m4⟩
  · exact .inl (k _ _ n6 q7)
  · exact .inr ⟨T, f, oT, k _ _ n6 q7, k _ _ m4 q8, m1, m2, m3, m4⟩
/-- the pairs that were given: new tuples -/
def Got (z b u v L : Addr) (xs ys : Array Value) (acc : Array Value) (i : Nat) (h : Heap) : Prop := acc.size = i ∧ ∀ j, j < i → ∃ T x y, acc[j]? = some (.ref T) ∧ xs[j]? = some x ∧ ys[j]? = some y ∧ IsTupOf2 h T x y ∧ T ≠ z ∧ T ≠ b ∧ T ≠ u ∧ T ≠ v ∧ T ≠ L
theorem Got.over {acc : Array Value} {i : Nat} {h h' : Heap} (g : Got z b u v L xs ys acc i h) (k : ∀ c o, c ≠ L → c ≠ z → c ≠ b → c ≠ u → c ≠ v → h.get? c = some o → h'.get? c = some o) : Got z b u v L xs ys acc i h' :=
  ⟨g.1, fun j hj => let ⟨T, x, y, e1, e2, e3, e4, n1, n2, n3, n4, n5⟩ := g.2 j hj; ⟨T, x, y, e1, e2, e3, k _ _ n5 n1 n2 n3 n4 e4, n1, n2, n3, n4, n5⟩⟩
abbrev Lst (h : Heap) (L : Addr) (acc : Array Value) (c : Nat) : Prop := h.get? L = some { cls := .type "list", dict := none, data := .seq acc c, slots := #[] }
/-- one more item -/
theorem step (hA : A.handled = none) (S : ZipSep2 z a b u v [u, t] [v, r]) (tu : t ≠ u) (rv : r ≠ v) (n : a ≠ L ∧ u ≠ L ∧ t ≠ L ∧ v ≠ L ∧ r ≠ L ∧ z ≠ L ∧ b ≠ L) {E : Value → Shared → Prop} {Q : Option Value → Shared → Prop} {s : Shared} {i : Nat} (l1 : i < xs.size) (l2 : i < ys.size) (q : At z a b u v t r L xs ys i s.heap) (hL : L < s.heap.objs.size)
    (k : ∀ h' tk x y, xs[i]? = some x → ys[i]? = some y → At z a b u v t r L xs ys (i + 1) h' → IsTupOf2 h' s.heap.objs.size x y → s.heap.objs.size ≠ z ∧ s.heap.objs.size ≠ b ∧ s.heap.objs.size ≠ u ∧ s.heap.objs.size ≠ v ∧ s.heap.objs.size ≠ L → (∀ c o, c ≠ z → c ≠ b → c ≠ u → c ≠ v → s.heap.get? c = some o → h'.get? c = some o) → Q (some (.ref s.heap.objs.size)) { s with heap := h', toks := tk }) :
    wpAny (model pr w) A (pyNext (.ref z)) Q E s := by
  obtain ⟨q2, q3, q5, ⟨x0, y0, q8'⟩, q7⟩ := q
  have D := Draws.tuple (prog := pr) (w := w) (A := A.in1) hA u t tu xs
  have G := Draws.tuple (prog := pr) (w := w) (A := A.in1) hA v r rv ys
  have old : ∀ {c o}, s.heap.get? c = some o → s.heap.objs.size ≠ c := fun e => Nat.ne_of_gt (Heap.lt_size e)
  have nu : s.heap.objs.size ≠ u := let ⟨_, e, _⟩ := q3.1; old e
  have nv : s.heap.objs.size ≠ v := let ⟨_, e, _⟩ := q5.1; old e
  have nL : s.heap.objs.size ≠ L := Nat.ne_of_gt hL
  rcases q7 with q7 | ⟨T, f, oT, q7, q8, n1, n2, n3, n4⟩
  · refine wpAny_pyNext_zipD2_item S D G q7 q2 q8' q3 q5 l1 l2 fun x y h' tk px py z1 b1 c1 c2 t1 sz kk => ?_
    exact k h' tk x y px py ⟨kk _ _ S.TIz S.TITO S.TIi1 S.TIi2 q2, c1, c2, ⟨x, y, b1⟩, .inr ⟨s.heap.objs.size, false, _, z1, t1, old q7, nu, nv, nL⟩⟩ t1 ⟨old q7, old q8', nu, nv, nL⟩ kk
  · refine next_item S D G q7 q8 q2 q3 q5 l1 l2 fun x y h' tk px py z1 c1 c2 t1 sz kk => ?_
    exact k h' tk x y px py ⟨kk _ _ S.TIz S.TIi1 S.TIi2 q2, c1, c2, ⟨x0, y0, kk _ _ S.TOz S.Ti1 S.Ti2 q8'⟩, .inr ⟨T, true, oT, z1, kk _ _ n1 n2 n3 q8, n1, n2, n3, n4⟩⟩ t1 ⟨old q7, old q8', nu, nv, nL⟩ fun c o c1 _ c3 c4 e => kk c o c1 c3 c4 e
theorem stop (hA : A.handled = none) (S : ZipSep2 z a b u v [u, t] [v, r]) (tu : t ≠ u) (rv : r ≠ v) {E : Value → Shared → Prop} {Q : Option Value → Shared → Prop} {s : Shared} (q : At z a b u v t r L xs ys (min xs.size ys.size) s.heap)
    (k : ∀ h' tk, (∀ c o, c ≠ z → c ≠ b → c ≠ u → c ≠ v → s.heap.get? c = some o → h'.get? c = some o) → Q none { s with heap := h', toks := tk }) : wpAny (model pr w) A (pyNext (.ref z)) Q E s := by
  obtain ⟨q2, q3, q5, ⟨x0, y0, q8'⟩, q7⟩ := q
  have D := Draws.tuple (prog := pr) (w := w) (A := A.in1) hA u t tu xs
  have G := Draws.tuple (prog := pr) (w := w) (A := A.in1) hA v r rv ys
  have e : min xs.size ys.size = xs.size ∨ min xs.size ys.size = ys.size := by omega
  rcases q7 with q7 | ⟨T, f, oT, q7, q8, n1, n2, n3, n4⟩
  · exact wpAny_pyNext_zipD2_end S D G q7 q2 q8' q3 q5 (Nat.min_le_left ..) (Nat.min_le_right ..) e fun h' tk kk => k h' tk kk
  · exact next_end S D G q7 q8 q2 q3 q5 (Nat.min_le_left ..) (Nat.min_le_right ..) e fun h' tk kk => k h' tk fun c o c1 _ c3 c4 e => kk c o c1 c3 c4 e
/-- list.extend's loop over the zip -/
theorem loop (hA : A.handled = none) (S : ZipSep2 z a b u v [u, t] [v, r]) (tu : t ≠ u) (rv : r ≠ v) (n : a ≠ L ∧ u ≠ L ∧ t ≠ L ∧ v ≠ L ∧ r ≠ L ∧ z ≠ L ∧ b ≠ L) (hz : min xs.size ys.size ≤ sizeLine) :
    ∀ (k i : Nat) (s : Shared) (acc : Array Value) (c : Nat), min xs.size ys.size - i = k → i ≤ min xs.size ys.size → At z a b u v t r L xs ys i s.heap → Lst s.heap L acc c → Got z b u v L xs ys acc i s.heap →
    (∀ h' tk acc' c', (∀ x o, x ≠ L → x ≠ z → x ≠ b → x ≠ u → x ≠ v → s.heap.get? x = some o → h'.get? x = some o) → Lst h' L acc' c' → Got z b u v L xs ys acc' (min xs.size ys.size) h' → R (.ok (.ret res)) { s with heap := h', toks := tk }) →
    codeAny (model pr w) A (.builtin "list.extend.loop" ⟨[.ref L, .ref z, res], []⟩) R s := by
  obtain ⟨n1, n2, n3, n4, n5, n6, n7⟩ := id n
  intro k
  induction k with
  | zero =>
    intro i s acc c hk hi q hL g hR
    have e : i = min xs.size ys.size := by omega
    subst e
    refine codeAny_builtin F.entry_extend_loop ?_
    rw [Around.under_plainId F.plain_extend_loop _]
    show wpAny _ A.in1 (pyNext (.ref z) >>= _) _ _ s
    refine wpAny_bind (stop (A := A.in1) hA S tu rv q fun h' tk kk => ?_)
    exact wpAny_pure (hR h' tk acc c (fun x o x1 x2 x3 x4 x5 e => kk x o x2 x3 x4 x5 e) (kk _ _ n6.symm n7.symm n2.symm n4.symm hL) (g.over fun x o _ x2 x3 x4 x5 e => kk x o x2 x3 x4 x5 e))
  | succ k ih =>
    intro i s acc c hk hi q hL g hR
    have l1 : i < xs.size := by omega
    have l2 : i < ys.size := by omega
    refine codeAny_builtin F.entry_extend_loop ?_
    rw [Around.under_plainId F.plain_extend_loop _]
    show wpAny _ A.in1 (pyNext (.ref z) >>= _) _ _ s
    refine wpAny_bind (step (A := A.in1) hA S tu rv n l1 l2 q (Heap.lt_size hL) fun h' tk x y ex ey q' tt fresh kk => ?_)
    obtain ⟨f1, f2, f3, f4, f5⟩ := fresh
    have hL' : Lst h' L acc c := kk _ _ n6.symm n7.symm n2.symm n4.symm hL
    show wpAny _ A.in1 (updateSeq L (·.push (.ref s.heap.objs.size)) >>= _) _ _ _
    refine wpAny_bind ?_
    have oth : ∀ c o, c ≠ L → h'.get? c = some o → (h'.update L (Obj.mapSeq (·.push (.ref s.heap.objs.size)))).get? c = some o := fun c o hc e => (Heap.get?_update_other _ _ hc.symm).trans e
    refine wpAny_updateSeq hL' rfl (wpAny_pure ⟨plainId_quiet F.plain_extend_loop _, ih (i + 1) _ (acc.push (.ref s.heap.objs.size)) _ (by omega) (by omega) (q'.over n oth) (Heap.get?_update_self _ hL' rfl) ?_ fun h'' tk' acc' c' k2 hL2 g2 => ?_⟩) (by rw [g.1]; omega) (by show (acc.push _).size ≤ sizeLine + 1; rw [Array.size_push, g.1]; omega)
    · refine ⟨by rw [Array.size_push, g.1], fun j hj => ?_⟩
      by_cases e : j < i
      · obtain ⟨T, x', y', e1, e2, e3, e4, m1, m2, m3, m4, m5⟩ := g.2 j e
        exact ⟨T, x', y', by rw [Array.getElem?_push_lt (by rw [g.1]; exact e)]; rw [Array.getElem?_eq_getElem (by rw [g.1]; exact e)] at e1; exact e1, e2, e3, oth _ _ m5 (kk _ _ m1 m2 m3 m4 e4), m1, m2, m3, m4, m5⟩
      · have e : j = i := by omega
        subst e
        exact ⟨_, x, y, by rw [← g.1]; exact Array.getElem?_push_size, ex, ey, oth _ _ f5 tt, f1, f2, f3, f4, f5⟩
    · exact hR h'' tk' acc' c' (fun x o x1 x2 x3 x4 x5 e => k2 x o x1 x2 x3 x4 x5 (oth _ _ x1 (kk x o x2 x3 x4 x5 e))) hL2 g2
theorem zip_len : typeLookup (.type "zip") "__len__" = pure none := am_miss_of_fast (by decide +kernel)
theorem zip_hint : typeLookup (.type "zip") "__length_hint__" = pure none := am_miss_of_fast (by decide +kernel)
theorem fill (hA : A.handled = none) (S : ZipSep2 z a b u v [u, t] [v, r]) (tu : t ≠ u) (rv : r ≠ v) (n : a ≠ L ∧ u ≠ L ∧ t ≠ L ∧ v ≠ L ∧ r ≠ L ∧ z ≠ L ∧ b ≠ L) (hz : min xs.size ys.size ≤ sizeLine) {s : Shared} {c : Nat} (zz : IsZip s.heap z a b .none) (q : At z a b u v t r L xs ys 0 s.heap)
    (hL : s.heap.get? L = some { cls := .type "list", data := .seq #[] c })
    (hR : ∀ h' tk acc' c', (∀ x o, x ≠ L → x ≠ z → x ≠ b → x ≠ u → x ≠ v → s.heap.get? x = some o → h'.get? x = some o) → Lst h' L acc' c' → Got z b u v L xs ys acc' (min xs.size ys.size) h' → R (.ok (.ret res)) { s with heap := h', toks := tk }) :
    wpAny (model pr w) A.in1 (Builtin.List.listExtendWith (.ref L) (.ref z) res)
      (fun fin s' => match fin with | .done f => R (.ok f) s' | .again c' => c'.quiet = true ∧ codeAny (model pr w) A c' R s') (fun e s' => R (.error e) s') s := by
  have ty : s.TypeIs (.ref z) "zip" := ⟨_, zz, rfl⟩
  have nz : L ≠ z := n.2.2.2.2.2.1.symm
  unfold Builtin.List.listExtendWith
  refine wpAny_bind (wpAny_typeOf ty ?_)
  have e1 : Builtin.List.listSameRef (.ref L) (.ref z) = false := by simp [Builtin.List.listSameRef, nz]
  have e2 : (Value.type "zip" == Value.type "list") = false := by decide
  have e3 : (Value.type "zip" == Value.type "tuple") = false := by decide
  simp only [e1, e2, e3, Bool.or_false, if_false, Bool.false_eq_true]
  refine wpAny_bind (wpAny_pyIter_zip zz ?_)
  refine wpAny_bind (wpAny_holding ?_)
  unfold Builtin.List.listLengthHint
  refine wpAny_bind (wpAny_specialOf ty zip_len ?_)
  show wpAny _ A.in1 (specialOf (Value.ref z) (Str.ofString "__length_hint__") >>= _) _ _ _
  refine wpAny_bind (wpAny_specialOf ty zip_hint ?_)
  refine wpAny_pure ?_
  show wpAny _ A.in1 (rule "list.extend.makes-room" >>= fun _ => Builtin.List.listTouch (.ref L) >>= fun _ => again (.builtin "list.extend.loop" ⟨[.ref L, .ref z, res], []⟩)) _ _ _
  refine wpAny_bind (wpAny_rule ?_)
  refine wpAny_bind ?_
  show wpAny _ _ (updateSeq L (·.push .none) >>= fun _ => updateSeq L (·.pop)) _ _ _
  refine wpAny_bind (wpAny_updateSeq hL rfl ?_)
  have hL2 := Heap.get?_update_self (Obj.mapSeq (·.push Value.none)) hL rfl
  refine wpAny_updateSeq (hz := by seq_fits) hL2 rfl ?_
  have hL3 := Heap.get?_update_self (Obj.mapSeq (·.pop)) hL2 rfl
  have oth : ∀ c o, c ≠ L → s.heap.get? c = some o → ((s.heap.update L (Obj.mapSeq (·.push Value.none))).update L (Obj.mapSeq (·.pop))).get? c = some o := fun c o hc e => (Heap.get?_update_other _ _ hc.symm).trans ((Heap.get?_update_other _ _ hc.symm).trans e)
  refine wpAny_pure ⟨plainId_quiet F.plain_extend_loop _, loop hA S tu rv n hz _ 0 _ _ _ rfl (Nat.zero_le _) (q.over n oth) hL3 ⟨rfl, fun j hj => absurd hj (Nat.not_lt_zero _)⟩ fun h' tk acc' c' k hL' g => ?_⟩
  exact hR h' tk acc' c' (fun x o x1 x2 x3 x4 x5 e => k x o x1 x2 x3 x4 x5 (oth _ _ x1 e)) hL' g
end
section
variable {pr : Program} {w : World} {A : Around} {E : Value → Shared → Prop} {s : Shared} {z a b u v t r : Addr} {xs ys : Array Value}
/-- list(zip) -/
theorem call_list_zip {Q : Value → Shared → Prop} (hA : A.handled = none) (S : ZipSep2 z a b u v [u, t] [v, r]) (tu : t ≠ u) (rv : r ≠ v) (hz : min xs.size ys.size ≤ sizeLine) (ok : ZOk z a b u v t r xs ys s.heap)
    (k : ∀ h' tk acc c, (∀ x o, x ≠ z → x ≠ b → x ≠ u → x ≠ v → s.heap.get? x = some o → h'.get? x = some o) → Lst h' s.heap.objs.size acc c → Got z b u v s.heap.objs.size xs ys acc (min xs.size ys.size) h' → Q (.ref s.heap.objs.size) { s with heap := h', toks := tk }) :
    wpAny (model pr w) A (call (.type "list") [.ref z]) Q E s := by
  obtain ⟨o1, o2, ⟨p, q, o3⟩, i1, i2⟩ := ok
  have ne : ∀ {c o}, s.heap.get? c = some o → c ≠ s.heap.objs.size := fun e => Nat.ne_of_lt (Heap.lt_size e)
  have n : a ≠ s.heap.objs.size ∧ u ≠ s.heap.objs.size ∧ t ≠ s.heap.objs.size ∧ v ≠ s.heap.objs.size ∧ r ≠ s.heap.objs.size ∧ z ≠ s.heap.objs.size ∧ b ≠ s.heap.objs.size :=
    ⟨ne o2, (let ⟨_, e, _⟩ := i1.1; ne e), (let ⟨_, e, _⟩ := i1.2; ne e), (let ⟨_, e, _⟩ := i2.1; ne e), (let ⟨_, e, _⟩ := i2.2; ne e), ne o1, ne o3⟩
  refine callType_codes (Q₁ := fun obj s₁ => obj = .ref s.heap.objs.size ∧ s₁ = { s with heap := s.heap.push { cls := .type "list", data := .seq #[] } }) F.called_list (F.typeCall_list_1 _) F.entry_list_init (code_list_new _ ⟨rfl, rfl⟩) ?_
  rintro obj s1 ⟨rfl, rfl⟩
  have hL : (s.heap.push { cls := .type "list", data := .seq #[] }).get? s.heap.objs.size = some { cls := .type "list", data := .seq #[] } := Heap.get?_push_size _ rfl
  refine ⟨⟨_, hL, rfl⟩, F.args_list_init_2 _ _, ?_⟩
  show wpAny _ _ (do let old ← Builtin.List.listItems (.ref s.heap.objs.size); Builtin.List.listUpdate (.ref s.heap.objs.size) (fun _ => #[]); letGo old.toList.reverse; Builtin.List.listExtendWith (.ref s.heap.objs.size) (.ref z) .none) _ _ _
  refine wpAny_bind ?_
  unfold Builtin.List.listItems
  refine wpAny_bind (wpAny_seqItems hL rfl (wpAny_pure ?_))
  show wpAny _ _ (updateSeq s.heap.objs.size (fun _ => #[]) >>= fun _ => letGo (#[] : Array Value).toList.reverse >>= fun _ => Builtin.List.listExtendWith (.ref s.heap.objs.size) (.ref z) .none) _ _ _
  refine wpAny_bind (wpAny_updateSeq hL rfl ?_)
  have hL2 := Heap.get?_update_self (Obj.mapSeq (fun _ => (#[] : Array Value))) hL rfl
  refine wpAny_bind (wpAny_letGo ?_)
  have up : ∀ c o, s.heap.get? c = some o → ((s.heap.push { cls := .type "list", data := .seq #[] }).update s.heap.objs.size (Obj.mapSeq (fun _ => (#[] : Array Value)))).get? c = some o := fun c o e => (Heap.get?_update_other _ _ (ne e).symm).trans (Heap.get?_push_of_some _ e)
  have q0 : At z a b u v t r s.heap.objs.size xs ys 0 s.heap := ⟨o2, i1, i2, ⟨p, q, o3⟩, .inl o1⟩
  refine fill (A := A.in1) hA S tu rv n hz (up _ _ o1) (q0.over n fun c o _ e => up c o e) hL2 fun h' tk acc c kk hL' g => ?_
  exact ⟨rfl, k h' tk acc c (fun x o x2 x3 x4 x5 e => kk x o (ne e) x2 x3 x4 x5 (up x o e)) hL' g⟩
end
end Zk
end

section
set_option maxRecDepth 100000
set_option maxHeartbeats 4000000
/-! dict(list(zip(a, b))) of two tuples. -/
namespace Zk
open PySem PySem.Calls PySem.Spec PyProof.Rows L2
section
variable {X : Cx} {e e2 : Expr} {ta : TA} {p p1 p2 pos pos1 pos2 : Pos}
abbrev zipE (p2 pos2 : Pos) (e e2 : Expr) : Expr := .Call (.Name "zip" p2) [e, e2] [] pos2
abbrev listE (p1 pos1 : Pos) (x : Expr) : Expr := .Call (.Name "list" p1) [x] [] pos1
theorem pe_dictListZip (hc : X.calm = true) (hg : Gl X "dict") (hm : X.mg "dict" = none) (hg1 : Gl X "list") (hm1 : X.mg "list" = none) (hg2 : Gl X "zip") (hm2 : X.mg "zip" = none) (ha : PA X [e, e2] ta)
    (hs : starEach [e, e2] X.env = (false, eval e X.env) :: starEach [e2] X.env := by rfl) (hpl : (backTo pos2 (starEach [e2] X.env)).any (·.1) = false := by rfl)
    (he1 : starEach [zipE p2 pos2 e e2] X.env = (false, eval (zipE p2 pos2 e e2) X.env) :: starEach [] X.env := by rfl) (hp1 : (backTo pos1 (starEach [] X.env)).any (·.1) = false := by rfl)
    (he : starEach [listE p1 pos1 (zipE p2 pos2 e e2)] X.env = (false, eval (listE p1 pos1 (zipE p2 pos2 e e2)) X.env) :: starEach [] X.env := by rfl) (hpe : (backTo pos (starEach [] X.env)).any (·.1) = false := by rfl) :
    PE X (.Call (.Name "dict" p) [listE p1 pos1 (zipE p2 pos2 e e2)] [] pos) (tDictZip X.K ta) := by
  refine ⟨fun pins s σ H Q I h => ?_⟩
  refine wpAny_Call_Name_kw (ld_blt I hg hm PyProof.Rows.boot_dict ?_ (by decide) (by decide))
  refine PyProof.Rows.callWith_type1 ?_ he hpe
  rw [he]
  show wpAny _ _ (spliced ((false, eval (listE p1 pos1 (zipE p2 pos2 e e2)) X.env) :: backTo pos (starEach [] X.env))) _ _ s
  refine Calls.spliced_cons ?_
  refine Call_ (ld_blt I hg1 hm1 PyProof.Rows.boot_list (PyProof.Rows.callWith_type1 ?_ he1 hp1))
  rw [he1]
  show wpAny _ _ (spliced ((false, eval (zipE p2 pos2 e e2) X.env) :: backTo pos1 (starEach [] X.env))) _ _ s
  refine Calls.spliced_cons ?_
  refine Call_ (ld_blt I hg2 hm2 PyProof.Rows.boot_zip (PyProof.Rows.callWith_type1 (L2.thn (ha.run pos2 pins s σ H _ I h) fun us s1 ⟨vs, H1, I1, r1, q1⟩ => ?_) hs hpl))
  obtain ⟨a, b, ks, ws, ex, qa, qb, q⟩ := q1
  subst ex
  cases r1 with
  | cons r rr =>
    cases rr with
    | cons r' rr =>
      cases rr
      cases r
      cases r'
      obtain ⟨its, rv, y1, z1⟩ := I1.tuple qa
      obtain ⟨its2, rv2, y2, z2⟩ := I1.tuple qb
      obtain ⟨o1, ho1, _⟩ := id y1
      obtain ⟨o2, ho2, _⟩ := id y2
      refine RZ.call_zipT (show s1.heap.IsTuple a its.toArray from y1) (show s1.heap.IsTuple b its2.toArray from y2) fun h' hz hTI hTO h1 h2 hsz hk => ?_
      refine Calls.spliced_nil ?_
      have la : a < s1.heap.objs.size := Heap.lt_size ho1
      have lb : b < s1.heap.objs.size := Heap.lt_size ho2
      have lk : its.length = ks.length := by rw [← vals_len rv, List.length_map]
      have lw : its2.length = ws.length := (vals_len rv2).symm
      have S : ZipSep2 (s1.heap.objs.size + 4) (s1.heap.objs.size + 2) (s1.heap.objs.size + 3) s1.heap.objs.size (s1.heap.objs.size + 1) [s1.heap.objs.size, a] [s1.heap.objs.size + 1, b] := by
        have f : ∀ {c : Addr} (j : Nat), c < s1.heap.objs.size → s1.heap.objs.size + j ≠ c := fun j hc e => Nat.lt_irrefl _ (Nat.lt_of_le_of_lt (Nat.le_add_right _ j) (e ▸ hc))
        have f0 : ∀ {c : Addr}, c < s1.heap.objs.size → s1.heap.objs.size ≠ c := fun hc e => Nat.lt_irrefl _ (e ▸ hc)
        constructor <;> simp [f _ la, f _ lb, f0 la, f0 lb]
      have P1 : h'.IsTuple a its.toArray := ⟨_, hk _ _ ho1, (by obtain ⟨o, e, r⟩ := y1; rw [ho1] at e; cases e; exact r)⟩
      have P2 : h'.IsTuple b its2.toArray := ⟨_, hk _ _ ho2, (by obtain ⟨o, e, r⟩ := y2; rw [ho2] at e; cases e; exact r)⟩
      have sz : min its.toArray.size its2.toArray.size ≤ sizeLine := by
        rw [List.length_map] at z1
        simp only [List.size_toArray]
        omega
      refine call_list_zip (I.ok.hd hc) S (Nat.ne_of_lt la) (Nat.ne_of_lt (Nat.lt_succ_of_lt lb)) sz ⟨hz, hTI, ⟨_, _, hTO⟩, ⟨h1, P1⟩, h2, P2⟩ fun g tk acc c k hL gt => ?_
      refine Calls.spliced_nil ?_
      have lz : (ks.zip its2).length = min its.toArray.size its2.toArray.size := by simp [lk]
      refine L2.call_dict_pairs (prs := ks.zip its2) (I.ok.hd hc) hL rfl rfl rfl (by rw [gt.1, lz]) (by rw [lz]; exact sz) (fun j pq e => ?_) fun g' tk' hd kk => ?_
      · obtain ⟨kj, vj⟩ := pq
        rw [List.getElem?_zip_eq_some] at e
        have hj : j < min its.toArray.size its2.toArray.size := by
          have := (List.getElem?_eq_some_iff.mp e.1).1
          have := (List.getElem?_eq_some_iff.mp e.2).1
          simp only [List.size_toArray]
          omega
        obtain ⟨T, x, y, g1, g2, g3, g4, _⟩ := gt.2 j hj
        have g2' : its[j]? = some x := by simpa using g2
        have g3' : its2[j]? = some y := by simpa using g3
        obtain ⟨k2, g5, g6⟩ := keys_at rv g2'
        rw [e.1] at g5
        rw [e.2] at g3'
        cases g5
        cases g3'
        exact ⟨T, x, g1, ⟨_, g4, rfl, _, rfl⟩, kV_is (P := X.prog) (w := X.w) g6⟩
      · have k1 : ∀ c o, s1.heap.get? c = some o → g'.get? c = some o := fun c o e => kk c o (by
          have e' := hk c o e
          have := Heap.lt_size e
          have f : ∀ j : Nat, c ≠ s1.heap.objs.size + j := fun j z => Nat.lt_irrefl _ (Nat.lt_of_le_of_lt (Nat.le_add_right _ j) (z ▸ this))
          exact k c o (f 4) (f 3) (f 0) (f 1) e')
        have gs : h'.objs.size < g.objs.size := Heap.lt_size hL
        have n5 : s1.heap.objs.size ≤ g.objs.size := by omega
        have hm : (g.objs.size == sysModules) = false := beq_eq_false_iff_ne.mpr (Nat.ne_of_gt (Nat.lt_of_lt_of_le I1.big n5))
        have rel := kv_zip (ks := ks) rv2
        have hlen : (mergeK [] (ks.zip ws)).length ≤ sizeLine := by
          have h3 := length_mergeK (ks.zip ws) []
          rw [List.length_map] at z1
          simp only [List.length_nil, List.length_zip] at h3
          omega
        exact ⟨.ref g.objs.size, upd H1 g.objs.size (.dK (mergeK [] (ks.zip ws))), I1.laid (t' := tk') k1 n5 (show ObjOk X.prog X.w _ _ _ (.dK (mergeK [] (ks.zip ws))) from ⟨hlen, hm, merged [] (ks.zip its2), KV.merge rel .nil, hd⟩), rfl, q _ (I1.hok.fresh n5)⟩
end
end Zk
end

section
set_option maxRecDepth 100000
set_option maxHeartbeats 4000000
/-! Readings over data: dict(zip(a, b)). -/
namespace Ab
open PySem PySem.Spec PyProof.Rows L2 Gd
section
variable {X : Cx} {B : Bk} {e e2 : Expr} {ta : TA} {wa : WL} {p p2 pos pos2 : Pos} {K : PySem.W.Frag}
def wDictZip (wa : WL) : WE := fun ρ m P => wa ρ m fun ds m1 => match ds with
  | [.im (.tuple xs), .im (.tuple ys)] => (match keysA xs with | some ks => P (.mu m1.length) (m1 ++ [.dk (mergeA [] (ks.zip (ys.map .im)))]) | none => False)
  | _ => False
theorem rks_zip {n : Nat} {N M : List Addr} {H : Hp} : ∀ {ks : List Key} {ws : List V} {ys : List AV}, RVs n N M H ws ys → RKs n N M H (ks.zip ws) (ks.zip ys)
  | [], _, _, _ => by simp only [List.zip_nil_left]; exact .nil
  | _ :: _, _, _, .nil => .nil
  | k :: r, _, _, .cons h t => .cons ⟨rfl, h⟩ (rks_zip t)
theorem le_dictZip (ha : LA B ta wa) : LE B (Zk.tDictZip K ta) (wDictZip wa) := fun N M H σ ρ m P Q x0 S R hw q => ha N M H σ ρ m _ _ x0 S R hw fun vs ds M1 H1 m1 x1 R1 r1 h1 => by
    split at h1
    · rename_i xs ys
      obtain ⟨v, v2, rfl, rv, rv2⟩ := val2 r1
      split at h1
      · rename_i ks ek
        cases rv with
        | tup n1 e1 z1 => cases rv2 with
          | tup n2 e2 z2 =>
            have ez := keys_rep z1 ek
            subst ez
            refine ⟨_, _, ks, _, rfl, .inl (.inl e1), .inl (.inl e2), fun p hp => ?_⟩
            have rk := merge_of (rks_zip (ks := ks) (to_ims (n := M1.length) (N := N) z2)) (.nil : RKs M1.length N M1 H1 ([] : List (Key × V)) ([] : List (Key × AV)))
            have ex : ∀ o, Ext M1 H1 (M1 ++ [p]) (upd H1 p o) := fun o => ⟨List.prefix_append _ _, Kp.new hp, fun a h1 h2 => by
              rcases List.mem_append.mp h1 with z | z
              · exact absurd z h2
              · rw [List.mem_singleton.mp z]; exact hp⟩
            obtain ⟨R', x'⟩ := R1.grow (c := .dk (mergeA [] (ks.zip (ys.map .im)))) hp ⟨_, upd_same, by rw [← R1.len]; exact pair_imp (fun _ _ r => ⟨r.1, r.2.ext (ex _)⟩) rk⟩
            exact q _ (.mu m1.length) _ _ _ (x1.trans x') R' ⟨by rw [← R1.len]; simp, p, last_mu R1 p, rfl⟩ h1
      · exact h1.elim
    · exact h1.elim
theorem ae_dictZip (hK : X.K = K) (hc : X.calm = true) (hg : Gl X "dict") (hm : X.mg "dict" = none) (hg2 : Gl X "zip") (hm2 : X.mg "zip" = none) (ha : AL X B [e, e2] ta wa)
    (hs : starEach [e, e2] X.env = (false, eval e X.env) :: starEach [e2] X.env := by rfl) (hpl : (backTo pos2 (starEach [e2] X.env)).any (·.1) = false := by rfl)
    (he : starEach [.Call (.Name "zip" p2) [e, e2] [] pos2] X.env = (false, eval (.Call (.Name "zip" p2) [e, e2] [] pos2) X.env) :: starEach [] X.env := by rfl) (hpe : (backTo pos (starEach [] X.env)).any (·.1) = false := by rfl) :
    AE X B (.Call (.Name "dict" p) [.Call (.Name "zip" p2) [e, e2] [] pos2] [] pos) (Zk.tDictZip K ta) (wDictZip wa) :=
  ⟨hK ▸ Zk.pe_dictZip hc hg hm hg2 hm2 ha.pa hs hpl he hpe, le_dictZip ha.la⟩
theorem ae_dictListZip {p1 pos1 : Pos} (hK : X.K = K) (hc : X.calm = true) (hg : Gl X "dict") (hm : X.mg "dict" = none) (hg1 : Gl X "list") (hm1 : X.mg "list" = none) (hg2 : Gl X "zip") (hm2 : X.mg "zip" = none) (ha : AL X B [e, e2] ta wa)
    (hs : starEach [e, e2] X.env = (false, eval e X.env) :: starEach [e2] X.env := by rfl) (hpl : (backTo pos2 (starEach [e2] X.env)).any (·.1) = false := by rfl)
    (he1 : starEach [Zk.zipE p2 pos2 e e2] X.env = (false, eval (Zk.zipE p2 pos2 e e2) X.env) :: starEach [] X.env := by rfl) (hp1 : (backTo pos1 (starEach [] X.env)).any (·.1) = false := by rfl)
    (he : starEach [Zk.listE p1 pos1 (Zk.zipE p2 pos2 e e2)] X.env = (false, eval (Zk.listE p1 pos1 (Zk.zipE p2 pos2 e e2)) X.env) :: starEach [] X.env := by rfl) (hpe : (backTo pos (starEach [] X.env)).any (·.1) = false := by rfl) :
    AE X B (.Call (.Name "dict" p) [.Call (.Name "list" p1) [.Call (.Name "zip" p2) [e, e2] [] pos2] [] pos1] [] pos) (Zk.tDictZip K ta) (wDictZip wa) :=
  ⟨hK ▸ Zk.pe_dictListZip hc hg hm hg1 hm1 hg2 hm2 ha.pa hs hpl he1 hp1 he hpe, le_dictZip ha.la⟩
end
end Ab
end

section
set_option maxRecDepth 100000
set_option maxHeartbeats 4000000
/-! Readings over data: sep.join(texts). -/
namespace Ab
open PySem PySem.Spec PyProof.Rows L2 Gd
section
variable {X : Cx} {B : Bk} {o e : Expr} {to te : TE} {wo we : WE} {pos apos : Pos} {K : PySem.W.Frag}
def wJoin (wo we : WE) : WE := fun ρ m P => wo ρ m fun d m1 => match d with
  | .im (.str a) => we ρ m1 fun c m2 => (match c with
    | .im (.tuple xs) => ∃ ys : List Str, xs = ys.map .str ∧ (ys.map (·.length)).sum + ys.length * a.length ≤ 16777216 ∧ P (.im (.str (Txt.join a ys))) m2
    | _ => False)
  | _ => False
theorem strs_of {M : List Addr} {H : Hp} : ∀ {us : List V} {ys : List Str}, Reps M H us (ys.map .str) → us = ys.map V.str
  | _, [], .nil => rfl
  | _, n :: r, .cons (.str _) t => by rw [strs_of t]; rfl
theorem ae_join (hK : X.K = K) (ho : AE X B o to wo) (he : AE X B e te we) (hs : starEach [e] X.env = [(false, eval e X.env)] := by rfl) (hbase : attributeBase o "join" X.env (eval o X.env) = eval o X.env := by rfl) (hline : (apos.endLine == pos.line) = true := by rfl) :
    AE X B (.Call (.Attribute o "join" apos) [e] [] pos) (tM1 (fun x xs H Q => ∃ a p, ∃ ys : List Str, x = .str a ∧ xs = [.ref p] ∧ (SqL K H p (ys.map V.str) ∨ SqT K H p (ys.map V.str)) ∧ (ys.map (·.length)).sum + ys.length * a.length ≤ 16777216 ∧ Q (.str (Txt.join a ys)) H) to te) (wJoin wo we) :=
  ⟨hK ▸ pe_join ho.pe he.pe hs hbase hline, fun N M H σ ρ m P Q x0 S R hw q => ho.le N M H σ ρ m _ _ x0 S R hw fun v d M1 H1 m1 x1 R1 r1 h1 => by
    split at h1
    · cases r1
      refine ⟨⟨_, rfl⟩, he.le N M1 H1 σ ρ m1 _ _ (x0.trans x1) (S.ext x1) R1 h1 fun v2 c M2 H2 m2 x2 R2 r2 h2 => ?_⟩
      split at h2
      · obtain ⟨ys, rfl, hz, h2⟩ := h2
        cases r2 with
        | tup n2 e2 z2 =>
          rw [strs_of z2] at e2
          exact ⟨_, _, ys, rfl, rfl, .inr (.inl (.inl e2)), hz, q _ (.im (.str (Txt.join _ ys))) M2 H2 m2 (x1.trans x2) R2 (.str _) h2⟩
      · exact h2.elim
    · exact h1.elim⟩
end
end Ab
end

section
set_option maxRecDepth 100000
set_option maxHeartbeats 4000000
/-! Readings over data: a tuple times 1. -/
namespace Zk
open PySem PySem.Spec PyProof.Rows L2
theorem mul_one (l : Addr) (items : Array Value) (n : Nat) (dd : Option Addr) (sl : Array (Option Value)) (u : Tok) :
    Meets (Builtin.«tuple.__mul__» ⟨[.ref l, .int 1 u], []⟩) (fun _ R s => s.heap.get? l = some { cls := .type "tuple", dict := dd, data := .seq items n, slots := sl } ∧ R (.ok (.ret (Value.ref l))) s) :=
  .of_wp fun prog w A R s h => by
    obtain ⟨hp, g, d, tk, os⟩ := s
    obtain ⟨hl, h⟩ := h
    have f1 := AutoSeq1.idx_int
    wp_walk using wpAny_loadPart' hl
    exact ⟨_, rfl, h⟩
section
variable {X : Cx}
/-- a tuple times n: 1 gives the tuple itself -/
def rTimes (K : PySem.W.Frag) : R2 := fun x y H Q => ∃ l k xs, x = .ref l ∧ y = .int k ∧ SqT K H l xs ∧ ((k = 1 ∧ Q (.ref l) H) ∨ (xs ≠ [] ∧ 2 ≤ k ∧ k ≤ 1000 ∧ xs.length ≤ 1000 ∧ ∀ p, H p = none → Q (.ref p) (upd H p (.tup (List.replicate k.toNat xs).flatten))))
theorem op_times : OpR X (binaryOp .Mult) (rTimes X.K) := by
  intro pins s σ H x y v u Q I rx ry h
  obtain ⟨l, k, xs, ex, ey, hT, h⟩ := h
  rcases h with ⟨ek, q⟩ | ⟨h1, h2, h3, h4, q⟩
  · subst ex ey ek
    cases rx
    obtain ⟨t, rfl⟩ := ry
    obtain ⟨its, r, ⟨⟨cls, dd, data, sl⟩, ho, hc, n, hd⟩, hs⟩ := I.tuple hT
    simp only at hc hd
    subst hc hd
    exact wpAny_binaryOp_repeat_ref (T := "tuple") (U := "int") (by decide) ⟨_, ho, rfl⟩ (fun s' => typeIs_int s' 1 t) noFill_tuple_mul F.fills_int_mul F.slot_int_rmul repeat_tuple F.slot_int_index.lookup
      (call_meets F.slot_int_rmul (typeIs_int s 1 t) F.entry_int_rmul (F.args_int_rmul_2 _ _) (int_rmul_tuple 1 t l its.toArray n dd sl)
        ⟨ho, rfl, ⟨_, ho, rfl⟩, call_meets F.slot_tuple_mul ⟨_, ho, rfl⟩ F.entry_tuple_mul (F.args_tuple_mul_2 _ _) (mul_one l its.toArray n dd sl t) ⟨ho, ⟨.ref l, H, I, rfl, q⟩⟩⟩)
  · exact op_repT pins s σ H x y v u Q I rx ry ⟨l, k, xs, ex, ey, hT, h1, h2, h3, h4, q⟩
end
end Zk
end

section
set_option maxRecDepth 100000
set_option maxHeartbeats 4000000
/-! Readings over data: lists put together that may change, tuples repeated, isinstance of a list that stays, slices of lists of anything, pop(i), strip(letters). -/
namespace Ab
open PySem PySem.Spec PyProof.Rows L2 Gd
section
variable {X : Cx} {B : Bk} {k : Nat}
/-- list + list, a new list that may change -/
def gAddM : G2 := fun d e m P => match itemsA d m, itemsA e m with
  | some xs, some ys => xs.length + ys.length ≤ sizeLine ∧ P (.mu m.length) (m ++ [.lst (xs ++ ys)])
  | _, _ => False
theorem oa_addM : OA X (binaryOp .Add) gAddM := by
  rintro pins s σ H x y v u Q I rx ry ⟨N, M, m, d, e, P, R, r1, r2, hg, q⟩
  unfold gAddM at hg
  split at hg
  · rename_i xs ys e1 e2
    obtain ⟨a, us, rfl, h1, z1⟩ := itemsA_of R r1 e1
    obtain ⟨b, ws, rfl, h2, z2⟩ := itemsA_of R r2 e2
    refine op_cat pins s σ H _ _ v u Q I rx ry ⟨a, b, us, ws, rfl, rfl, h1, h2, by rw [pair_len z1, pair_len z2]; exact hg.1, fun p hp => ?_⟩
    obtain ⟨R', x', r'⟩ := newL R hp (pair_app z1 z2)
    exact q _ _ _ _ _ x' R' r' hg.2
  · exact hg.elim
theorem reps_rep {M : List Addr} {H : Hp} {us : List V} {xs : List PyData} (r : Reps M H us xs) : ∀ n : Nat, Reps M H (List.replicate n us).flatten (List.replicate n xs).flatten
  | 0 => .nil
  | n + 1 => by
    rw [List.replicate_succ, List.replicate_succ, List.flatten_cons, List.flatten_cons]
    exact r.append (reps_rep r n)
/-- tuple * n -/
def gTimes : G2 := fun d e m P => match d, e with
  | .im (.tuple xs), .im (.int k) => 1 ≤ k ∧ k ≤ 1000 ∧ xs ≠ [] ∧ xs.length ≤ 1000 ∧ P (.im (.tuple (List.replicate k.toNat xs).flatten)) m
  | _, _ => False
theorem oa_times : OA X (binaryOp .Mult) gTimes := by
  rintro pins s σ H x y v u Q I rx ry ⟨N, M, m, d, e, P, R, r1, r2, hg, q⟩
  unfold gTimes at hg
  split at hg
  · rename_i xs k
    obtain ⟨h1, h2, h3, h4, hg⟩ := hg
    cases r2
    cases r1 with
    | tup n e1 z =>
      rename_i a us
      refine Zk.op_times pins s σ H _ _ v u Q I rx ry ⟨a, k, us, rfl, rfl, .inl (.inl e1), ?_⟩
      by_cases e : k = 1
      · subst e
        refine .inl ⟨rfl, q _ (.im (.tuple xs)) M H m .refl R (Rep.tup n e1 z) ?_⟩
        simpa using hg
      · refine .inr ⟨fun c => h3 ?_, by omega, h2, by rw [z.length]; exact h4, fun p hp => ?_⟩
        · have := z.length
          rw [c] at this
          exact List.eq_nil_of_length_eq_zero this.symm
        · exact q _ (.im (.tuple _)) M _ m (.alloc hp) (R.alloc hp) (Rep.tup (R.live.fresh hp) upd_same ((reps_rep z _).keep (Kp.new hp))) hg
  · exact hg.elim
/-- isinstance, of a list that stays too -/
def rIsW (f : PyData → Bool) (T : String) : List V → Hp → VK → Prop := fun xs H Q => ∃ v, xs = [v, .ty T] ∧ ((∃ M d, Rep M H v d ∧ Q (.bl (f d)) H) ∨ ∃ a us ds, v = .ref a ∧ H a = some (.lst us) ∧ Q (.bl (f (.list ds))) H)
theorem isW {f : PyData → Bool} {T : String} (kit : ∀ {K : W.Frag} (d : PyData), W.kitOne K (.type (tyN d)) (.type T) = some (f d)) : CallR X (.builtin "isinstance") (rIsW f T) := fun pins s σ H xs us Q I r h =>
  let ⟨v, e, h⟩ := h
  match h with
  | .inl ⟨_, d, rp, q⟩ => call_isi pins s σ H xs us Q I r ⟨v, _, _, _, _, e, .ty _, rp.ty, kit d, q⟩
  | .inr ⟨a, us', ds, ev, ea, q⟩ => call_isi pins s σ H xs us Q I r ⟨v, _, _, _, _, e, .ty _, by subst ev; exact .base (.lst ea), kit (.list ds), q⟩
def wIsI2 (f : PyData → Bool) (w : WE) : WE := fun ρ m P => w ρ m fun d m1 => match d with | .im y => P (.im (.bool (f y))) m1 | .wl xs => P (.im (.bool (f (.list xs)))) m1 | _ => False
theorem ae_isI2 {f : PyData → Bool} {T : String} {n e : Expr} {t : TE} {we : WE} {p pos : Pos} (hc : CallR X (.builtin "isinstance") (rIsW f T)) (hg : Gl X "isinstance") (hm : X.mg "isinstance" = none) (hv : bootBuiltins "isinstance" = some (.builtin "isinstance")) (ha : AE X B e t we) (hT : PE X n (tC (.ty T)))
    (hs1 : starEach (e :: [n]) X.env = (false, eval e X.env) :: starEach [n] X.env := by rfl) (hs2 : starEach (n :: []) X.env = (false, eval n X.env) :: starEach [] X.env := by rfl)
    (hpl : (backTo pos (starEach [n] X.env)).any (·.1) = false := by rfl) : AE X B (.Call (.Name "isinstance" p) [e, n] [] pos) (tCB (rIsW f T) (tCons t (tCons (tC (.ty T)) tNil))) (wIsI2 f we) :=
  ⟨pe_callB hc hg hm hv (pa_cons ha.pe (pa_cons hT pa_nil hs2) hs1) (by decide) (by decide) hs1 hpl, fun N M H σ ρ m P Q x0 S R hw q => ha.le N M H σ ρ m _ _ x0 S R hw fun v d M1 H1 m1 x1 R1 r1 h1 => by
    split at h1
    · exact ⟨v, rfl, .inl ⟨M1 ++ N, _, r1, q _ (.im (.bool _)) M1 H1 m1 x1 R1 (.bl _) h1⟩⟩
    · obtain ⟨a, us, rfl, _, ea, _⟩ := r1
      exact ⟨_, rfl, .inr ⟨a, us, _, rfl, ea, q _ (.im (.bool _)) M1 H1 m1 x1 R1 (.bl _) h1⟩⟩
    · exact h1.elim⟩
/-- o[a:b] of a list of anything, the items between being data -/
def gSlW (d : AV) (lo hi : Option Int) (m : Store) (P : AV → Store → Prop) : Prop := match itemsA d m with
  | some xs => (match ims (cutD xs lo hi) with | some zs => P (.wl zs) m | none => False)
  | none => False
def lSlW : V → Option Int → Option Int → Hp → VK → Prop := fun x lo hi H Q => ∃ N M m d P, Rel N M H m ∧ RV M.length N M H x d ∧ gSlW d lo hi m P ∧ ∀ v d' M' H' m', Ext M H M' H' → Rel N M' H' m' → RV M'.length N M' H' v d' → P d' m' → Q v H'
theorem pair_drop {α β : Type} {F : α → β → Prop} : ∀ {xs : List α} {ys : List β} (n : Nat), Paired F xs ys → Paired F (xs.drop n) (ys.drop n)
  | _, _, 0, h => by simpa using h
  | _, _, _ + 1, .nil => .nil
  | _, _, n + 1, .cons _ t => pair_drop n t
theorem pair_take {α β : Type} {F : α → β → Prop} : ∀ {xs : List α} {ys : List β} (n : Nat), Paired F xs ys → Paired F (xs.take n) (ys.take n)
  | _, _, 0, _ => by simpa using Paired.nil
  | _, _, _ + 1, .nil => .nil
  | _, _, n + 1, .cons r t => .cons r (pair_take n t)
theorem sl_dataW : SlR X lSlW := by
  refine SlR.imp sl_list fun x lo hi H Q ⟨N, M, m, d, P, R, r1, hg, q⟩ => ?_
  unfold gSlW at hg
  split at hg
  · rename_i xs e1
    split at hg
    · rename_i zs e2
      obtain ⟨a, us, rfl, h1, z⟩ := itemsA_of R r1 e1
      have l := pair_len z
      refine ⟨a, us, rfl, .inl (.inl h1), fun p hp => ?_⟩
      have e : RVs M.length N M H (cutV us lo hi) (cutD xs lo hi) := by unfold cutV cutD; rw [l]; exact pair_take _ (pair_drop _ z)
      obtain ⟨x', R', r'⟩ := new_wl R hp (ims_of e e2)
      exact q _ _ M _ m x' R' r' hg
    · exact hg.elim
  · exact hg.elim
def wSlW (wa : WE) (wl wh : WO) : WE := fun ρ m P => wa ρ m fun d m1 => wl ρ m1 fun lo m2 => wh ρ m2 fun hi m3 => gSlW d lo hi m3 P
theorem ae_sliceW {lo hi : Option Expr} {tl th : TO} {wl wh : WO} {p2 pos : Pos} {a : Expr} {ta : TE} {wa : WE} (ha : AE X B a ta wa) (hl : AO X B lo tl wl) (hh : AO X B hi th wh) : AE X B (.Subscript a (.Slice lo hi none p2) pos) (tSl lSlW ta tl th) (wSlW wa wl wh) :=
  ⟨pe_slice sl_dataW ha.pe hl.po hh.po, fun N M H σ ρ m P Q x0 S R h q => ha.le N M H σ ρ m _ _ x0 S R h fun v d M1 H1 m1 x1 R1 r1 h1 => hl.lo N M1 H1 σ ρ m1 _ _ (x0.trans x1) (S.ext x1) R1 h1 fun l M2 H2 m2 x2 R2 h2 =>
    hh.lo N M2 H2 σ ρ m2 _ _ ((x0.trans x1).trans x2) ((S.ext x1).ext x2) R2 h2 fun u M3 H3 m3 x3 R3 h3 => ⟨N, M3, m3, d, P, R3, (r1.extL x2).extL x3, h3, fun z f M4 H4 m4 x4 R4 r4 h4 => q z f M4 H4 m4 (((x1.trans x2).trans x3).trans x4) R4 r4 h4⟩⟩
/-- {} -/
def wDNew : WE := fun _ m P => P (.im (.dict [])) m
theorem ae_dnew {pos : Pos} : AE X B (.Dict [] [] pos) tDNewK wDNew := ⟨pe_dnewK, fun N M H σ ρ m P Q x0 S R hw q p hp => q _ (.im (.dict [])) M _ m (.alloc hp) (R.alloc hp) (.emp (R.live.fresh hp) upd_same) hw⟩
def wDNewM : WE := fun _ m P => P (.mu m.length) (m ++ [.dk []])
theorem ae_dnewM {pos : Pos} : AE X B (.Dict [] [] pos) tDNewK wDNewM := ⟨pe_dnewK, fun N M H σ ρ m P Q x0 S R hw q p hp => by
  obtain ⟨a, b⟩ := R.grow (c := .dk []) (o := .dK []) hp ⟨[], upd_same, .nil⟩
  exact q _ (.mu m.length) _ _ _ b a ⟨by rw [← R.len]; simp, p, last_mu R p, rfl⟩ hw⟩
/-- l.pop(i) -/
def gPop : GM := fun d ds m P => match d, ds with
  | .mu j, [.im (.int i)] => 0 ≤ i ∧ i < 2 ^ 63 ∧ (match m[j]? with | some (.lst xs) => (match xs[i.toNat]? with | some y => P y (m.set j (.lst (xs.eraseIdx i.toNat))) | none => False) | _ => False)
  | _, _ => False
theorem pair_erase {α β : Type} {F : α → β → Prop} : ∀ {xs : List α} {ys : List β} (n : Nat), Paired F xs ys → Paired F (xs.eraseIdx n) (ys.eraseIdx n)
  | _, _, _, .nil => .nil
  | _, _, 0, .cons _ t => t
  | _, _, n + 1, .cons r t => .cons r (pair_erase n t)
theorem ma_pop : MA X "list.pop" gPop := by
  rintro pins s σ H x vs v us Q I rx rs ⟨N, M, m, d, ds, P, R, r1, r2, hg, q⟩
  unfold gPop at hg
  split at hg
  · rename_i j i
    obtain ⟨h1, h2, hg⟩ := hg
    split at hg
    · rename_i xs ex
      split at hg
      · rename_i y ey
        obtain ⟨_, a, ha, rfl⟩ := r1
        obtain ⟨w, rfl, rw'⟩ := val1 r2
        cases rw'
        obtain ⟨us', h3, h4⟩ := R.cell j a _ ha ex
        have ma : a ∈ M := List.mem_of_getElem? ha
        obtain ⟨z, ez, rz⟩ := pair_at h4 ey
        have hj := (List.getElem?_eq_some_iff.mp ha).1
        have hi := (List.getElem?_eq_some_iff.mp ez).1
        obtain ⟨R', x'⟩ := R.put (c := .lst (xs.eraseIdx i.toNat)) (o := .lst (us'.eraseIdx i.toNat)) ha ⟨_, upd_same, pair_imp (fun _ _ r => r.put ma) (pair_erase _ h4)⟩
        refine mt_popAt pins s σ H _ _ v us Q I rx rs ⟨a, us', i, i.toNat, z, rfl, rfl, h3, by omega, h2, ?_, ez, q _ y M _ _ x' R' ((rz.put ma).up (by omega)) hg⟩
        unfold seqIndex?
        simp
        omega
      · exact hg.elim
    · exact hg.elim
  · exact hg.elim
end
end Ab
end

section
set_option maxRecDepth 100000
set_option maxHeartbeats 4000000
/-! set(list of texts) and its texts in order. -/
namespace Gd
open PySem PySem.Spec PyProof.Rows L2
/-- the text of an entry -/
def txtOf (e : Int × Value) : Str := match e.2 with | .str s _ => s | _ => ""
def SetS (P : Program) (w : World) (h : Heap) (a : Addr) (S : Str → Bool) (n : Nat) : Prop :=
  ∃ o es ep t, h.get? a = some o ∧ o.ExactSet ∧ o.data = .set es ep t ∧ ElemsOf (strKind P w) es.toList ∧ (es.toList.map txtOf).Nodup ∧ (∀ k, S k = true ↔ k ∈ es.toList.map txtOf) ∧
    es.size < scanBound ∧ t.fits es.size = true ∧ es.size = n ∧ Ris t.place.toList ∧ (w.params.followText "set-order" = true ∨ t.led = true)
theorem SetS.at {P : Program} {w : World} {h h' : Heap} {a : Addr} {S : Str → Bool} {n : Nat} (R : SetS P w h a S n) (k : ∀ o, h.get? a = some o → h'.get? a = some o) : SetS P w h' a S n :=
  let ⟨o, es, ep, t, ho, r⟩ := R; ⟨o, es, ep, t, k o ho, r⟩
theorem SetS.congr {P : Program} {w : World} {h : Heap} {a : Addr} {S S' : Str → Bool} {n : Nat} (R : SetS P w h a S n) (k : ∀ x, S' x = S x) : SetS P w h a S' n := by
  have : S' = S := funext k
  rw [this]; exact R
theorem is_txt {P : Program} {w : World} {k : Str} {v : Value} (h : (strKind P w).is k v = true) : ∃ t, v = .str k t := by
  have h : Value.isStrOf k v = true := h
  unfold Value.isStrOf at h
  cases v <;> simp_all
theorem txt_is {P : Program} {w : World} {e : Int × Value} {k : Str} (h : (strKind P w).is k e.2 = true) : txtOf e = k := by
  obtain ⟨t, ht⟩ := is_txt h
  unfold txtOf; rw [ht]
section
variable {P : Program} {w : World} {A : Around} {E : Value → Shared → Prop} {s : Shared} {a : Addr}
theorem setS_tail {g : Bool → Sem Unit} (hg : ∀ (b : Bool) (s₁ : Shared) (Q' : Unit → Shared → Prop), Q' () s₁ → wpAny (model P w) A (g b) Q' E s₁) {o : Obj} {es : Array (Int × Value)} {ep : Nat} {t : SetTable}
    (ho : s.heap.get? a = some o) (hex : o.ExactSet) (hd : o.data = .set es ep t) {es1 : Array (Int × Value)} {t2 : SetTable} {S' : Str → Bool} (g1 : ElemsOf (strKind P w) es1.toList) (nd1 : (es1.toList.map txtOf).Nodup)
    (m1 : ∀ k, S' k = true ↔ k ∈ es1.toList.map txtOf) (hb1 : es1.size < scanBound) (hf2 : t2.fits es1.size = true) (hr : Ris t2.place.toList) (hl : w.params.followText "set-order" = true ∨ t2.led = true) {wasDummy : Bool} {R : Option Bool → Shared → Prop}
    (hR : ∀ h', Heap.SameBut a s.heap h' → SetS P w h' a S' es1.size → R (some true) { heap := h', gens := s.gens, drawn := s.drawn, toks := s.toks, os := s.os }) :
    wpAny (model P w) A (do
      storeSet a es1 t2
      if (!wasDummy && t2.tooFull) = true then do
        g (relayAll t2 es1 (SetTable.grown es1.size)).snd.snd
        storeSet a (relayAll t2 es1 (SetTable.grown es1.size)).fst (relayAll t2 es1 (SetTable.grown es1.size)).snd.fst
        pure (some true)
      else pure (some true)) R E s := by
  refine wpAny_bind (wpAny_storeSet_of ho hd ?_ (fits_of_scanBound hb1))
  have ho1 := store_at (es' := es1) (t' := t2) ho hd
  have sb1 := Heap.SameBut.update s.heap a (Obj.putSet es1 t2)
  by_cases c : (!wasDummy && t2.tooFull) = true
  · rw [if_pos c]
    have pm := relayAll_perm t2 es1 (SetTable.grown es1.size)
    have hf3 := relayAll_fits t2 es1 (SetTable.grown es1.size)
    have hr3 := relayAll_ris t2 es1 (SetTable.grown es1.size)
    have hl3 := relayAll_led t2 es1 (SetTable.grown es1.size)
    generalize relayAll t2 es1 (SetTable.grown es1.size) = z at pm hf3 hr3 hl3
    obtain ⟨es2, t3, gave⟩ := z
    simp only at pm hf3 hr3 hl3 ⊢
    have hsz : es2.size = es1.size := by rw [← Array.length_toList, pm.length_eq, Array.length_toList]
    have hb2 : es2.size < scanBound := by rw [hsz]; exact hb1
    refine wpAny_bind (hg gave _ _ (wpAny_bind (wpAny_storeSet_of ho1 rfl ?_ (fits_of_scanBound hb2))))
    have ho2 := store_at (es' := es2) (t' := t3) ho1 rfl
    refine wpAny_pure (hR _ (sb1.trans (Heap.SameBut.update _ a (Obj.putSet es2 t3))) ⟨_, es2, _, t3, ho2, hex, rfl, fun e he => g1 e (pm.mem_iff.mp he), (pm.map txtOf).nodup_iff.mpr nd1, fun k => (m1 k).trans (pm.map txtOf).mem_iff.symm, hb2, hf3, hsz, hr3, hl.imp id fun z => by rw [hl3]; exact z⟩)
  · rw [if_neg c]
    exact wpAny_pure (hR _ sb1 ⟨_, es1, _, t2, ho1, hex, rfl, g1, nd1, m1, hb1, hf2, rfl, hr, hl⟩)
theorem setS_add {S : Str → Bool} {n : Nat} {k : Str} {tk : Tok} {Q : Bool → Shared → Prop} (R : SetS P w s.heap a S n) (room : n + 1 < scanBound)
    (hQ : ∀ h', Heap.SameBut a s.heap h' → SetS P w h' a (fun j => S j || decide (j = k)) (if S k = true then n else n + 1) → Q (!S k) { heap := h', gens := s.gens, drawn := s.drawn, toks := s.toks, os := s.os }) :
    wpAny (model P w) A (setAddHashed a (.str k tk) ((strKind P w).hash k)) Q E s := by
  obtain ⟨o, es, ep, t, ho, hex, hd, hel, nd, hm, hb, hf, hn, hr, hl⟩ := R
  have hkey := strKind_is P w k tk
  have hsc : (Value.str k tk).scannable = true := rfl
  show wpAny (model P w) A (holding [.str k tk] (setAddHashedIn a (.str k tk) ((strKind P w).hash k) 100000)) Q E s
  rw [setAddHashedIn.eq_def]
  refine wpAny_holding (wpAny_bind (wpAny_setState_of ho hd hf ?_))
  simp only []
  rw [byScan_of hsc hb hel]
  simp only [if_true]
  refine wpAny_bind ?_
  unfold setAddByScan
  refine wpAny_bind (wpAny_rule (wpAny_bind (wpAny_setScan_of hkey ho hd hf hel ?_)))
  have mem : k ∈ es.toList.map txtOf ↔ ∃ e ∈ es.toList, (strKind P w).is k e.2 = true := by
    rw [List.mem_map]
    constructor
    · rintro ⟨e, he, rfl⟩
      obtain ⟨⟨k', hk', _⟩, _⟩ := hel e he
      exact ⟨e, he, by rw [txt_is hk']; exact hk'⟩
    · rintro ⟨e, he, h⟩
      exact ⟨e, he, txt_is h⟩
  cases c : es.toList.findIdx? (fun e => (strKind P w).is k e.2) with
  | some j =>
    simp only []
    have : k ∈ es.toList.map txtOf := mem.mpr (by
      obtain ⟨h1, h2, _⟩ := List.findIdx?_eq_some_iff_getElem.mp c
      exact ⟨_, List.getElem_mem h1, h2⟩)
    have hS := (hm k).mpr this
    refine wpAny_pure ?_
    simp only []
    refine wpAny_pure ?_
    have := hQ s.heap ⟨rfl, fun _ _ => rfl⟩ ⟨o, es, ep, t, ho, hex, hd, hel, nd, fun j => by
      rw [← hm j]
      by_cases e : j = k
      · subst e; simp [hS]
      · simp [e], hb, hf, by rw [if_pos hS]; exact hn, hr, hl⟩
    rw [hS] at this
    exact this
  | none =>
    simp only []
    have hnk : k ∉ es.toList.map txtOf := fun z => by
      obtain ⟨e, he, h⟩ := mem.mp z
      rw [List.findIdx?_eq_none_iff] at c
      exact absurd h (by rw [c e he]; simp)
    have hS : S k = false := by
      cases q : S k with
      | false => rfl
      | true => exact absurd ((hm k).mp q) hnk
    have pm := layNew_perm t es ((strKind P w).hash k) (.str k tk)
    have hf1 := layNew_fits t es ((strKind P w).hash k) (.str k tk)
    have hr1 := layNew_ris t es ((strKind P w).hash k) (.str k tk) hr
    have hl1 := layNew_led t es ((strKind P w).hash k) (.str k tk)
    generalize layNew t es ((strKind P w).hash k) (.str k tk) = z at pm hf1 hr1 hl1
    obtain ⟨es1, t1, wasDummy, gave⟩ := z
    simp only at pm hf1 hr1 hl1 ⊢
    have hgw : ∀ {g : Bool → Sem Unit}, (∀ b, g b = match b with | true => rule "set.scan.the-table-gave-way" | false => pure ()) → ∀ (b : Bool) (s₁ : Shared) (Q' : Unit → Shared → Prop), Q' () s₁ → wpAny (model P w) A (g b) Q' E s₁ := fun hg b s₁ Q' q => by
      rw [hg b]
      cases b with
      | false => exact wpAny_pure q
      | true => exact wpAny_rule q
    rw [Array.toList_push] at pm
    have g1 : ElemsOf (strKind P w) es1.toList := (hel.push hkey hsc).perm pm
    have pk : (es1.toList.map txtOf).Perm (es.toList.map txtOf ++ [k]) := by
      have := pm.map txtOf
      rwa [List.map_append] at this
    have nd1 : (es1.toList.map txtOf).Nodup := pk.nodup_iff.mpr (by
      rw [List.nodup_append]
      exact ⟨nd, by simp, fun x hx y hy => by rw [List.mem_singleton.mp hy]; exact fun z => hnk (z ▸ hx)⟩)
    have m1 : ∀ j, (S j || decide (j = k)) = true ↔ j ∈ es1.toList.map txtOf := fun j => by
      rw [pk.mem_iff, List.mem_append, ← hm j, List.mem_singleton, Bool.or_eq_true, decide_eq_true_eq]
    have hs1 : es1.size = n + 1 := by rw [← Array.length_toList, pm.length_eq, List.length_append, Array.length_toList, hn]; rfl
    have hb1 : es1.size < scanBound := by rw [hs1]; exact room
    have fin : ∀ h', Heap.SameBut a s.heap h' → SetS P w h' a (fun j => S j || decide (j = k)) es1.size → Q true { heap := h', gens := s.gens, drawn := s.drawn, toks := s.toks, os := s.os } := fun h' sb r => by
      have := hQ h' sb (by rw [hS]; simp only [Bool.false_eq_true, if_false]; rw [← hs1]; exact r)
      rw [hS] at this
      exact this
    have hl2 : w.params.followText "set-order" = true ∨ t1.led = true := hl.imp id fun z => by rw [hl1]; exact z
    refine wpAny_bind (hgw (fun b => by cases b <;> rfl) gave _ _ ?_)
    by_cases c2 : t1.plain = true
    · rw [if_pos c2]
      refine wpAny_bind (wpAny_pure ?_)
      simp only [Bool.false_eq_true, if_false]
      exact setS_tail (t2 := { mask := t1.mask, place := t1.place, dummies := t1.dummies, finger := t1.finger, led := t1.led, moves := t1.moves, plain := false }) (hgw fun b => by cases b <;> rfl) ho hex hd g1 nd1 m1 hb1 hf1 hr1 hl2 fun h' sb r => wpAny_pure (fin h' sb r)
    · rw [if_neg c2]
      refine wpAny_bind (wpAny_pure ?_)
      simp only [if_true]
      exact setS_tail (hgw fun b => by cases b <;> rfl) ho hex hd g1 nd1 m1 hb1 hf1 hr1 hl2 fun h' sb r => wpAny_pure (fin h' sb r)
/-- what set.__init__ leaves -/
theorem set_update_strs {I : Addr} {fp wr : List Addr} {G : Array GenState → Array GenState → Prop} {n : Nat} {Pv : Nat → Value → Prop} {St : Nat → Shared → Prop} {R : Result → Shared → Prop}
    (W : WalksS P w A.in1 I fp wr G n Pv St) (S : Addr) (hSf : S ∉ fp) (ns : List Str) (hn : n = ns.length) (hb : ns.length + 1 < scanBound) (hval : ∀ i v, Pv i v → ∃ k t, ns[i]? = some k ∧ v = .str k t) :
    ∀ (k i : Nat) (s : Shared), n - i = k → i ≤ n → St i s → (∃ c, c ≤ i ∧ SetS P w s.heap S (fun j => decide (j ∈ ns.take i)) c) →
      (∀ (s' : Shared) (c : Nat), Moved (S :: wr) G s s' → c ≤ n → SetS P w s'.heap S (fun j => decide (j ∈ ns)) c → R (.ok (.ret .none)) s') →
      codeAny (model P w) A (.builtin "set.update.loop" { pos := [.ref S, .ref I] }) R s := by
  have hSw : S ∉ wr := fun h => hSf (W.sub S h)
  have hsub : ∀ b ∈ wr, b ∈ S :: wr := fun b hb => List.mem_cons_of_mem S hb
  intro k
  induction k with
  | zero =>
    rintro i s hk' hi hst ⟨c, hc, hS⟩ hR
    have hin : i = n := by omega
    subst hin
    refine codeAny_builtin PyProof.Rows.F.entry_set_update_loop ?_
    rw [Around.under_plainId PyProof.Rows.F.plain_set_update_loop]
    refine wpAny_bind (W.done s _ _ hst fun s' hm => ?_)
    have e : ns.take i = ns := List.take_of_length_le (by omega)
    rw [e] at hS
    exact wpAny_pure (hR s' c (hm.mono hsub) hc (hS.at fun o e => hm.heap S o hSw e))
  | succ k ih =>
    rintro i s hk' hi hst ⟨c, hc, hS⟩ hR
    have hlt : i < n := by omega
    refine codeAny_builtin PyProof.Rows.F.entry_set_update_loop ?_
    rw [Around.under_plainId PyProof.Rows.F.plain_set_update_loop]
    refine wpAny_bind (W.item i s _ _ hlt hst fun v s' hP hst' hm => ?_)
    obtain ⟨z, t, hz, rfl⟩ := hval i v hP
    have hS' := hS.at (h' := s'.heap) fun o e => hm.heap S o hSw e
    refine wpAny_bind (wpAny_holding (wpAny_holding (wpAny_bind ((strKind P w).pyHash (strKind_is P w z t) (setS_add hS' (by omega) fun h' hsb hS2 => ?_)))))
    have hS3 : SetS P w h' S (fun j => decide (j ∈ ns.take (i + 1))) (if decide (z ∈ ns.take i) = true then c else c + 1) := hS2.congr fun j => by
      rw [List.take_add_one, hz]
      simp [List.mem_append, Bool.decide_or]
    have hc3 : (if decide (z ∈ ns.take i) = true then c else c + 1) ≤ i + 1 := by split <;> omega
    refine wpAny_pure ⟨plainId_quiet PyProof.Rows.F.plain_set_update_loop _, ih (i + 1) _ (by omega) hlt (W.frame (i + 1) s' h' _ hst' (Nat.le_succ _) fun b hb o e => by rw [hsb.2 b fun h => hSf (h ▸ hb)]; exact e) ⟨_, hc3, hS3⟩ fun s'' c2 hm'' hc'' hS'' => hR s'' c2 (Moved.trans W.gtrans (Moved.then_heap (hm.mono hsub) (Nat.le_succ _) fun b o hb e => by rw [hsb.2 b fun h => hb (h ▸ List.mem_cons_self)]; exact e) hm'') hc'' hS''⟩
end
section
variable {P : Program} {w : World} {A : Around} {E : Value → Shared → Prop} {s : Shared}
/-- what set.__init__ leaves -/
abbrev FillS (P : Program) (w : World) (s : Shared) (ns : List Str) (E : Value → Shared → Prop) : Result → Shared → Prop := wants (fun r z => r = .none ∧ ∃ g k c, z = { s with heap := g, toks := k } ∧ SetS P w g s.heap.objs.size (fun j => decide (j ∈ ns)) c ∧ c ≤ ns.length ∧ ∀ b o, s.heap.get? b = some o → g.get? b = some o) E
theorem setS_new {h : Heap} {a : Addr} {ns : List Str} (ho : h.get? a = some (nu w)) : SetS P w h a (fun j => decide (j ∈ ns.take 0)) 0 :=
  ⟨_, #[], 0, _, ho, ⟨rfl, rfl, rfl⟩, rfl, (fun e he => by cases he), by simp, (fun k => by simp), by decide, rfl, rfl, List.Pairwise.nil, by
    cases h : w.params.followText "set-order" with
    | false => exact .inr rfl
    | true => exact .inl rfl⟩
theorem set_of_strs {l : Addr} {its : Array Value} {ns : List Str} {G : Value → Shared → Prop} (off : A.handled = none) (hl : s.heap.IsList l its) (iv : ∀ (i : Nat) (v : Value), its[i]? = some v → ∃ k t, ns[i]? = some k ∧ v = .str k t) (n_its : its.size = ns.length) (few : ns.length + 1 < scanBound)
    (go : ∀ (g : Heap) (k c : Nat), SetS P w g s.heap.objs.size (fun j => decide (j ∈ ns)) c → c ≤ ns.length → (∀ b o, s.heap.get? b = some o → g.get? b = some o) → G (.ref s.heap.objs.size) { s with heap := g, toks := k }) :
    wpAny (model P w) A (call (.type "set") [.ref l]) G E s := by
  have at0 : (s.heap.push (nu w)).get? s.heap.objs.size = some (nu w) := Heap.get?_push_size _ rfl
  have big : (s.heap.push (nu w)).objs.size = s.heap.objs.size + 1 := Heap.size_push ..
  obtain ⟨cm, tm, hmro⟩ := F.called_set.mro
  have k1 := F.called_set.made; have k2 := F.called_set.sub
  refine wpAny_call (codeAny_of_tree (show wpAny _ _ (callAny (.type "set") _) _ _ _ from wpAny_pure ⟨Code.quiet_builtin _ (by decide +kernel), codeAny_builtin F.entry_type_call ?_⟩))
  rw [Around.under_plain (weight_type_call_type "set" [.ref l] []) rfl]
  have k3 := F.called_set.notType; have k4 := F.called_set.canCreate; have k5 := F.typeCall_set_1 (.ref l)
  repeat (any_goals (first | assumption | wp_step))
  refine codeAny_mono (code_set_led1 (.ref l) (E := E) (Q₁ := fun x z => x = .ref s.heap.objs.size ∧ z = { s with heap := s.heap.push (nu w) }) ⟨rfl, rfl⟩) fun r z hr => ?_
  match r, hr with
  | .error e, hr => exact hr
  | .ok (.ret x), hr =>
    obtain ⟨rfl, rfl⟩ := hr
    have ty : Shared.TypeIs { s with heap := s.heap.push (nu w) } (.ref s.heap.objs.size) "set" := ⟨_, at0, rfl⟩
    have k6 := F.called_set.init.lookup; have k7 := F.called_set.init.bind (.ref s.heap.objs.size)
    repeat (any_goals (first | assumption | wp_step))
    refine codeAny_mono (codeAny_call_builtin (R := FillS P w s ns E) F.called_set.init.plain F.entry_set_init (check_set_init_1 ty ?_)) fun r2 z2 hr2 => ?_
    · obtain ⟨⟨c0, d0, dt, sl⟩, hol, hc, m, hd⟩ := hl
      simp only at hc hd
      subst hc hd
      have lk := Heap.get?_push_of_some (nu w) hol
      have at1 : (s.heap.push (nu w)).IsList l its := ⟨_, lk, rfl, m, rfl⟩
      have low : l < s.heap.objs.size := Heap.lt_size hol
      have p1 := PySem.F.sub_list_set; have p2 := PySem.F.sub_list_frozenset
      have p3 : (Value.type "list" == Value.type "dict") = false := by decide
      unfold Builtin.«set.__init__» noKeywords Builtin.Frozenset.updateFrom
      generalize hPI : pyIter = PI
      wp_walk
      subst hPI
      refine wpAny_pyIter_list at1 (wpAny_bind (wpAny_runValue ?_))
      have off3 : A.in1.in1.in1.handled = none := by simp [off]
      have apart : l ≠ (s.heap.push (nu w)).objs.size := by rw [big]; exact Nat.ne_of_lt (Nat.lt_succ_of_lt low)
      have mine : s.heap.objs.size ∉ [(s.heap.push (nu w)).objs.size, l] := fun z => by
        rcases List.mem_cons.mp z with z | z
        · exact absurd (z.trans big) (Nat.ne_of_lt (Nat.lt_succ_self _))
        · exact absurd (List.mem_singleton.mp z) (Nat.ne_of_gt low)
      refine set_update_strs ((Walks.list off3 _ l apart its).toS) s.heap.objs.size mine ns n_its few (fun i v hv => iv i v hv) (its.size - 0) 0 _ (by omega) (Nat.zero_le _) ⟨⟨_, Heap.get?_push_size _ rfl, rfl, rfl⟩, at1.push _⟩
        ⟨0, Nat.le_refl 0, setS_new (Heap.get?_push_of_some _ at0)⟩ fun z c mv hc hS => ?_
      obtain ⟨g, g2, d2, k, o2⟩ := z
      obtain rfl : g2 = s.gens := mv.gens
      obtain rfl : d2 = s.drawn := mv.drawn
      obtain rfl : o2 = s.os := mv.os
      refine wpAny_pure (show wpAny _ _ (ret Value.none) _ _ _ from wpAny_pure ⟨rfl, g, k, c, rfl, hS, by omega, fun b o e => ?_⟩)
      have hb := Heap.lt_size e
      exact mv.heap b o (fun z => by
        rcases List.mem_cons.mp z with z | z
        · exact absurd z (Nat.ne_of_lt hb)
        · exact absurd ((List.mem_singleton.mp z).trans big) (Nat.ne_of_lt (Nat.lt_succ_of_lt hb))) (Heap.get?_push_of_some _ (Heap.get?_push_of_some _ e))
    · match r2, hr2 with
      | .error e, hr2 => exact hr2
      | .ok (.ret x), hr2 =>
        obtain ⟨rfl, g, k, c, rfl, hS, hc, kp⟩ := hr2
        repeat (any_goals (first | assumption | wp_step))
        exact go g k c hS hc kp
def txtV (v : Value) : Str := match v with | .str s _ => s | _ => ""
theorem each_txt : ∀ {vs : List Value}, (∀ v ∈ vs, ∃ k t, v = Value.str k t) → W.EachIs (fun v k => ∃ t, v = Value.str k t) vs (vs.map txtV)
  | [], _ => .nil
  | v :: vs, h => .cons (by obtain ⟨k, t, e⟩ := h v List.mem_cons_self; subst e; exact ⟨t, rfl⟩) (each_txt fun u hu => h u (List.mem_cons_of_mem _ hu))
/-- sorted(set of texts) -/
theorem sorted_setS {a : Addr} {S : Str → Bool} {n : Nat} {Q : Value → Shared → Prop} (R : SetS P w s.heap a S n) (hh : A.handled = none) (hu : A.units + 20 < cLine)
    (hQ : ∀ (s' : Shared) (p : Nat) (out : List Value) (c : Nat) (ss : List Str), (∀ b o, s.heap.get? b = some o → s'.heap.get? b = some o) → s'.gens = s.gens → s'.os = s.os → s.heap.objs.size ≤ p →
      s'.heap.get? p = some (PyProof.Rows.seqObj "list" out.toArray c) → W.EachIs (fun v k => ∃ t, v = Value.str k t) out (ss.mergeSort (W.dataLe false PyData.str)) → ss.Nodup → (∀ k, k ∈ ss ↔ S k = true) → ss.length = n → Q (.ref p) s') :
    wpAny (model P w) A (call (.builtin "sorted") [.ref a]) Q E s := by
  obtain ⟨o, es, ep, t, ho, hex, hd, hel, nd, hm, hb, hf, hn, hr, hl⟩ := R
  refine Calls.call_function_entry PyProof.Rows.kind_sorted PyProof.Rows.plain_sorted PyProof.Rows.entry_sorted (PyProof.Rows.args_sorted1 (.ref a)) ?_
  refine wpAny_bind (wpAny_pure (wpAny_bind (collect_set hh ⟨o, ho, hex.1, hd⟩ hf hb hr hl fun s1 vs k1 hz g1 o1 pm => ?_)))
  have hall : ∀ v ∈ vs, ∃ k t, v = Value.str k t := fun v hv => by
    obtain ⟨e, he, rfl⟩ := List.mem_map.mp (pm.mem_iff.mp hv)
    obtain ⟨⟨k, hk, _⟩, _⟩ := hel e he
    obtain ⟨t, ht⟩ := is_txt hk
    exact ⟨k, t, ht⟩
  have pk : (vs.map txtV).Perm (es.toList.map txtOf) := by
    have := pm.map txtV
    rwa [List.map_map] at this
  have lv : vs.length = n := by rw [pm.length_eq, List.length_map, Array.length_toList, hn]
  have small : vs.length ≤ sizeLine := by rw [lv, ← hn]; exact fits_of_scanBound hb
  refine wpAny_bind (wpAny_newList ?_ small)
  have hoL : (s1.heap.push { cls := Value.type "list", data := Data.seq vs.toArray }).get? s1.heap.objs.size = some (PyProof.Rows.seqObj "list" vs.toArray 0) := Heap.get?_push_size _ rfl
  refine wpAny_bind (wpAny_holding ?_)
  have ea := each_txt hall
  refine W.list_sort_data (enc := PyData.str) (R := fun v k => ∃ t, v = Value.str k t) (bs := vs.map txtV) hoL ea (ea.mono fun v k ⟨t, e⟩ => ⟨[], by subst e; exact .str k t, List.not_mem_nil⟩) (W.AllAlike.of fun _ _ => by simp [W.alike]) (W.Sortable.others fun _ => ⟨by simp, by simp⟩) (by rw [List.length_map]; exact small) (fun b _ => ?_) fun out ho eo => ?_
  · show A.in1.units + 1 + (PyData.str b).depth < cLine
    simp only [PyData.depth]
    show A.units + 1 + 1 + _ < cLine
    omega
  · obtain ⟨c, hc⟩ := sortedHeap_at (out := out.toArray) hoL
    refine wpAny_pure ⟨_, rfl, hQ _ s1.heap.objs.size out c (vs.map txtV) (fun b u e => ?_) g1 o1 hz hc eo (pk.nodup_iff.mpr nd) (fun k => by rw [pk.mem_iff, hm k]) (by rw [List.length_map]; exact lv)⟩
    have q := k1 b u e
    have hlt := Heap.lt_size q
    show (sortedHeap _ s1.heap.objs.size vs out.toArray).get? b = some u
    rw [sortedHeap_old (Nat.ne_of_lt hlt) (by rw [size_push']; exact Nat.lt_succ_of_lt hlt)]
    exact Heap.get?_push_of_some _ q
end
abbrev SetSO (P : Program) (w : World) (a : Addr) (S : Str → Bool) (n : Nat) : HO := .ext fun h => SetS P w h a S n
theorem setSO_new {P : Program} {w : World} {H : Hp} {h : Heap} {a : Addr} {S : Str → Bool} {n : Nat} (R : SetS P w h a S n) : ObjOk P w H h a (SetSO P w a S n) :=
  ⟨R, by obtain ⟨o, _, _, _, ho, _⟩ := R; exact ⟨o, ho⟩, fun _ _ p k => p.at k⟩
section
variable {X : Cx} {k : Nat} {P : Program} {w : World}
def rSetS (K : PySem.W.Frag) (P : Program) (w : World) : List V → Hp → VK → Prop := fun xs H Q => ∃ (a : Addr) (ns : List Str), xs = [V.ref a] ∧ SqL K H a (ns.map V.str) ∧ ns.length < 1000 ∧
  ∀ (p : Addr) (c : Nat), H p = none → c ≤ ns.length → Q (.ref p) (upd H p (SetSO P w p (fun j => decide (j ∈ ns)) c))
theorem strs_at {us : List Value} : ∀ {ns : List Str}, Vals (ns.map V.str) us → ∀ (i : Nat) (v : Value), us[i]? = some v → ∃ k t, ns[i]? = some k ∧ v = .str k t := by
  induction us with
  | nil => intro ns h i v e; simp at e
  | cons u r ih =>
    intro ns h i v e
    cases ns with
    | nil => cases h
    | cons n t =>
      cases h with
      | cons h1 h2 =>
        cases i with
        | zero =>
          obtain ⟨tk, rfl⟩ := h1
          cases e
          exact ⟨n, tk, rfl, rfl⟩
        | succ i => exact ih h2 i v (by simpa using e)
theorem cr_setS {K : PySem.W.Frag} (hK : X.K = K) (hP : X.prog = P) (hw : X.w = w) (hc : X.calm = true) : CallR X (.type "set") (rSetS K P w) := by
  subst hK hw hP
  intro pins s σ H xs us Q I r h
  obtain ⟨a, ns, rfl, hs, few, q⟩ := h
  obtain ⟨its, rv, hl, _⟩ := I.list hs
  rw [Vals.ref1 r]
  have hlen := rv.length
  refine set_of_strs (ns := ns) (I.ok.hd hc) hl.isList (fun i v hv => strs_at rv i v (by simpa using hv)) (by rw [List.length_map] at hlen; simpa using hlen.symm) (by unfold scanBound; omega) fun g t c R hc' kp => ?_
  exact ⟨.ref _, _, I.laid (t' := t) kp (Nat.le_refl _) (setSO_new R), rfl, q _ c (I.hok.fresh (Nat.le_refl _)) hc'⟩
def rSortedSetS (P : Program) (w : World) : List V → Hp → VK → Prop := fun vs H Q => ∃ (a : Addr) (S : Str → Bool) (n : Nat), vs = [V.ref a] ∧ H a = some (SetSO P w a S n) ∧
  ∀ (ss : List Str) (p : Addr), ss.Nodup → (∀ k, k ∈ ss ↔ S k = true) → ss.length = n → H p = none → Q (.ref p) (upd H p (.lst ((ss.mergeSort (W.dataLe false PyData.str)).map V.str)))
theorem vals_txt : ∀ {out : List Value} {ms : List Str}, W.EachIs (fun v k => ∃ t, v = Value.str k t) out ms → Vals (ms.map V.str) out
  | _, _, .nil => .nil
  | _, _, .cons h t => .cons h (vals_txt t)
theorem cr_sortedSetS (hP : X.prog = P) (hw : X.w = w) (hc : X.calm = true) (hr : Room k X.A) : CallR X (.builtin "sorted") (rSortedSetS P w) := by
  subst hw hP
  intro pins s σ H vs us Q I r h
  obtain ⟨a, S, n, rfl, ha, q⟩ := h
  have R : SetS X.prog X.w s.heap a S n := (I.hok a (SetSO X.prog X.w a S n) ha).1
  rw [Vals.ref1 r]
  have un := hr.un
  refine sorted_setS R (I.ok.hd hc) (by omega) fun s' p out c ss kk g o hp hg ho nd hm hl => ?_
  have hn := I.hok.fresh hp
  have hlen : ((ss.mergeSort (W.dataLe false PyData.str)).map V.str).length ≤ sizeLine := by
    rw [List.length_map, List.length_mergeSort, hl]
    obtain ⟨_, es, _, _, _, _, _, _, _, _, hb, _, hn, _⟩ := R
    rw [← hn]; exact fits_of_scanBound hb
  have bare : AllBare s'.gens := by rw [g]; exact I.bare
  have J : L2.Inv X pins σ (upd H p (.lst ((ss.mergeSort (W.dataLe false PyData.str)).map V.str))) { heap := s'.heap, gens := s'.gens, drawn := s'.drawn, toks := s'.toks, os := s.os } :=
    Inv.call (ch := []) I (Un.laid kk hp hn) (I.hok.laid kk hp (show ObjOk X.prog X.w _ s'.heap p (.lst _) from ⟨hlen, out, c, vals_txt ho, hg⟩)) bare fun x z => by cases z
  obtain ⟨h', g', d', t', o'⟩ := s'
  simp only at g o
  subst o
  exact ⟨.ref p, _, J, rfl, q ss p nd hm hl hn⟩
end
end Gd
end

section
set_option maxRecDepth 100000
set_option maxHeartbeats 4000000
/-! Readings over data: sorted(set(list of texts)); strip of letters. -/
namespace Ab
open PySem PySem.Spec PyProof.Rows L2 Gd
section
variable {X : Cx} {B : Bk} {e o : Expr} {te to : TE} {we wo : WE} {tl : TA} {wl : WL} {K : PySem.W.Frag} {PP : Program} {w : World} {p p2 pos pos2 apos : Pos} {k : Nat}
theorem reps_strs {M : List Addr} {H : Hp} : ∀ ns : List Str, Reps M H (ns.map V.str) (ns.map .str)
  | [] => .nil
  | n :: r => .cons (.str _) (reps_strs r)
/-- the texts of a list, each once, ascending -/
def gSortSetS : GL := fun ds m P => match ds with
  | [d] => (match asL d m with
    | some xs => ∃ ns : List Str, xs = ns.map .str ∧ ns.length < 1000 ∧ ∀ ms : List Str, Asc ms → (∀ k, k ∈ ms ↔ k ∈ ns) → ms.length ≤ ns.length → P (.wl (ms.map .str)) m
    | none => False)
  | _ => False
theorem ordS_le (a b : Str) : W.dataLe false PyData.str a b = ordS a b := by
  show (!W.dataLt (.str b) (.str a)) = _
  rw [W.dataLt_str]; rfl
theorem ae_sortSetS (hK : X.K = K) (hP : X.prog = PP) (hw : X.w = w) (hc : X.calm = true) (hr : Room k X.A) (hg : Gl X "sorted") (hm : X.mg "sorted" = none) (hg2 : Gl X "set") (hm2 : X.mg "set" = none) (ha : AL X B [e] tl wl)
    (he2 : starEach [e] X.env = (false, eval e X.env) :: starEach [] X.env := by rfl) (hpl2 : (backTo pos2 (starEach [] X.env)).any (·.1) = false := by rfl)
    (he : starEach [.Call (.Name "set" p2) [e] [] pos2] X.env = (false, eval (.Call (.Name "set" p2) [e] [] pos2) X.env) :: starEach [] X.env := by rfl) (hpl : (backTo pos (starEach [] X.env)).any (·.1) = false := by rfl) :
    AE X B (.Call (.Name "sorted" p) [.Call (.Name "set" p2) [e] [] pos2] [] pos) (tCB (rSortedSetS PP w) (tCons (tCB (rSetS K PP w) tl) tNil)) (wCB gSortSetS wl) :=
  ⟨pe_callB (cr_sortedSetS hP hw hc hr) hg hm (by decide +kernel) (pa_cons (pe_callTy (cr_setS hK hP hw hc) hg2 hm2 (by decide +kernel) ha.pa (by decide) (by decide) he2 hpl2) pa_nil) (by decide) (by decide) he hpl,
   fun N M H σ ρ m P Q x0 S R hw' q => ha.la N M H σ ρ m _ _ x0 S R hw' fun vs ds M1 H1 m1 x1 R1 r1 h1 => by
    unfold gSortSetS at h1
    split at h1
    · obtain ⟨v, rfl, rv⟩ := val1 r1
      split at h1
      · rename_i xs ex
        obtain ⟨ns, rfl, few, h1⟩ := h1
        obtain ⟨a, us, rfl, ha', z⟩ := asL_of R1 rv ex
        rw [strs_of z] at ha'
        refine ⟨a, ns, rfl, .inl (.inl ha'), few, fun p c hp hc' => ⟨p, _, c, rfl, upd_same, fun ss p2 nd mem len hp2 => ?_⟩⟩
        have R2 := R1.alloc (o := SetSO PP w p (fun j => decide (j ∈ ns)) c) hp
        have e1 : ss.mergeSort (W.dataLe false PyData.str) = ss.mergeSort ordS := by
          have : (W.dataLe false PyData.str) = ordS := funext fun a => funext fun b => ordS_le a b
          rw [this]
        rw [e1]
        have pm := List.mergeSort_perm ss ordS
        obtain ⟨x', R', r'⟩ := new_wl R2 hp2 (reps_strs (ss.mergeSort ordS))
        exact q _ _ M1 _ m1 (x1.trans ((Ext.alloc hp).trans x')) R' r' (h1 _ (asc_sort nd) (fun k => by rw [pm.mem_iff, mem k]; simp) (by rw [pm.length_eq, len]; exact hc'))
      · exact h1.elim
    · exact h1.elim⟩
/-- x.strip(letters) -/
def wStrip (wo we : WE) : WE := fun ρ m P => wo ρ m fun d m1 => match d with
  | .im (.str a) => we ρ m1 fun c m2 => (match c with
    | .im (.str b) => a.length ≤ sizeLine ∧ P (.im (.str (Txt.stripChars a b))) m2
    | _ => False)
  | _ => False
theorem ae_strip (ho : AE X B o to wo) (he : AE X B e te we) (hs : starEach [e] X.env = [(false, eval e X.env)] := by rfl) (hbase : attributeBase o "strip" X.env (eval o X.env) = eval o X.env := by rfl) (hline : (apos.endLine == pos.line) = true := by rfl) :
    AE X B (.Call (.Attribute o "strip" apos) [e] [] pos) (tM1 (fun x xs H Q => ∃ a b, x = .str a ∧ xs = [.str b] ∧ a.length ≤ sizeLine ∧ Q (.str (Txt.stripChars a b)) H) to te) (wStrip wo we) :=
  ⟨pe_m1 F.slot_str_strip F.type_str_strip mt_stripChars ho.pe he.pe hs hbase hline, fun N M H σ ρ m P Q x0 S R hw q => ho.le N M H σ ρ m _ _ x0 S R hw fun v d M1 H1 m1 x1 R1 r1 h1 => by
    split at h1
    · cases r1
      refine ⟨⟨_, rfl⟩, he.le N M1 H1 σ ρ m1 _ _ (x0.trans x1) (S.ext x1) R1 h1 fun v2 c M2 H2 m2 x2 R2 r2 h2 => ?_⟩
      split at h2
      · cases r2
        exact ⟨_, _, rfl, rfl, h2.1, q _ (.im (.str _)) M2 H2 m2 (x1.trans x2) R2 (.str _) h2.2⟩
      · exact h2.elim
    · exact h1.elim⟩
/-- x[::-1] of a tuple -/
def wRev (w : WE) : WE := fun ρ m P => w ρ m fun d m1 => match d with
  | .im (.tuple xs) => P (.im (.tuple xs.reverse)) m1
  | _ => False
theorem ae_rev {j : Nat} {p1 p3 : Pos} (h : AE X B e te we) : AE X B (.Subscript e (.Slice none none (some (.UnaryOp .USub (.Constant (.int 1) j p1) p2)) p3) pos) (tRevT te) (wRev we) :=
  ⟨pe_revT h.pe, fun N M H σ ρ m P Q x0 S R hw q => h.le N M H σ ρ m _ _ x0 S R hw fun v d M1 H1 m1 x1 R1 r1 h1 => by
    split at h1
    · cases r1 with
      | tup n e1 z =>
        exact ⟨_, _, rfl, e1, fun p hp => q _ (.im (.tuple _)) M1 _ m1 (x1.trans (.alloc hp)) (R1.alloc hp) (Rep.tup (R1.live.fresh hp) upd_same (z.reverse.keep (Kp.new hp))) h1⟩
    · exact h1.elim⟩
end
end Ab
end

section
set_option maxRecDepth 100000
set_option maxHeartbeats 4000000
/-! Sets of tuples of any keys. -/
namespace Zk
open PySem PySem.Spec PyProof.Rows L2
section
variable {P : Program} {w : World} {K : Type} [DecidableEq K] (knd : KeyKind P w K)
abbrev IsH (h : Heap) (k : List K) (a : Addr) : Prop := IsTupleKey knd h k a
abbrev hsh (k : List K) : Int := tupleKeyHash knd k
def rowsH (L : List (Addr × List K)) : List (Int × Value) := L.map fun p => (hsh knd p.2, Value.ref p.1)
structure SetH (h : Heap) (a : Addr) (L : List (Addr × List K)) (es : Array (Int × Value)) (ep : Nat) (t : SetTable) : Prop where
  ob : ∃ o, h.get? a = some o ∧ o.ExactSet ∧ o.data = .set es ep t
  rows : es.toList = rowsH knd L
  tab : TabOk t (L.map fun p => hsh knd p.2)
  nd : (L.map (·.2)).Nodup
  tup : ∀ p ∈ L, IsH knd h p.2 p.1
  led : w.params.followText "set-order" = true ∨ t.led = true
  room : L.length * 5 < t.mask * 3
  few : L.length < 64
variable {knd}
variable {A : Around} {E : Value → Shared → Prop} {s : Shared} {a : Addr} {L : List (Addr × List K)} {es : Array (Int × Value)} {ep : Nat} {t : SetTable}
theorem isH_at {h h' : Heap} {k : List K} {b : Addr} (hk : IsH knd h k b) (kp : ∀ o, h.get? b = some o → h'.get? b = some o) : IsH knd h' k b :=
  let ⟨o, it, n, ho, r⟩ := hk; ⟨o, it, n, kp o ho, r⟩
theorem isH_same {h h' : Heap} {k : List K} {a b : Addr} {o : Obj} (hk : IsH knd h k b) (ho : h.get? a = some o) (hd : o.data = .set es ep t) (sb : Heap.SameBut a h h') : IsH knd h' k b := by
  refine isH_at hk fun u hu => ?_
  have ne : b ≠ a := fun e => by
    subst e
    obtain ⟨o2, it, n, h2, _, hd2, _⟩ := hk
    rw [ho] at h2; cases h2
    rw [hd] at hd2; cases hd2
  rw [sb.2 b ne]; exact hu
theorem SetH.size (R : SetH knd s.heap a L es ep t) : es.size = L.length := by
  have := congrArg List.length R.rows
  rw [Array.length_toList] at this
  rw [this]; simp [rowsH]
theorem SetH.entry (R : SetH knd s.heap a L es ep t) {i : Nat} {p : Addr × List K} (h : L[i]? = some p) : es[i]? = some (hsh knd p.2, .ref p.1) := by
  rw [← Array.getElem?_toList, R.rows]
  simp [rowsH, h]
theorem SetH.gw (R : SetH knd s.heap a L es ep t) : ¬ t.gaveWay = true := by
  show ¬ (t.mask % 2 == 0) = true
  rw [mask_odd R.tab.mok]; decide
theorem SetH.psz (R : SetH knd s.heap a L es ep t) : t.place.size = L.length := by
  have := R.tab.sz
  rwa [List.length_map] at this
theorem SetH.fits (R : SetH knd s.heap a L es ep t) : t.fits es.size = true := by
  have h1 := R.psz
  have h2 := R.size
  have h3 := R.room
  show (t.place.size == es.size && decide (t.fill ≤ t.mask)) = true
  have e : t.fill = t.place.size + t.dummies.size := rfl
  rw [e, R.tab.dm, Bool.and_eq_true, beq_iff_eq, decide_eq_true_eq]
  refine ⟨by omega, ?_⟩
  show t.place.size + 0 ≤ t.mask
  omega
theorem items_kind {its : List Value} : ∀ {k : List K}, PySem.ItemsAre knd k its → ∀ v ∈ its, ∃ x, knd.is x v = true := by
  intro k h
  induction h with
  | nil => intro v hv; cases hv
  | cons h1 _ ih =>
    intro v hv
    rcases List.mem_cons.mp hv with e | e
    · subst e; exact ⟨_, h1⟩
    · exact ih v e
/-- what hashes of the kind tell of the order -/
def HB (knd : KeyKind P w K) : Prop := ∀ x v, knd.is x v = true → ∃ b, hashByValue 7 v = pure b
theorem hashBy_h (hb : HB knd) {k : List K} {b : Addr} {Q : Bool → Shared → Prop} (hk : IsH knd s.heap k b) (h : ∀ r, Q r s) : wpAny (model P w) A (hashByValue 8 (.ref b)) Q E s := by
  have hT := IsTupleKey.typeIs hk
  obtain ⟨o, items, n, ho, hc, hd, hi⟩ := hk
  rw [hashByValue.eq_def]
  refine wpAny_bind (wpAny_specialOf hT F.slot_tuple_hash.lookup ?_)
  refine wpAny_bind (wpAny_seqItems ho hd (wpAny_bind ?_))
  simp only [Option.getD_some]
  rw [← Array.forIn_toList]
  have all := items_kind hi
  refine wpAny_forIn_list _ (fun rest r s' => r.1 = none ∧ s' = s ∧ ∀ v ∈ rest, ∃ x, knd.is x v = true) _ (fun v rest r s' ⟨hr, hs, hall⟩ => ?_) (fun r s' ⟨hr, hs, _⟩ => ?_) items.toList (none, ()) ⟨rfl, rfl, all⟩
  · subst hs
    obtain ⟨x, hx⟩ := hall v List.mem_cons_self
    obtain ⟨c, hc⟩ := hb x v hx
    rw [hc]
    refine wpAny_bind (wpAny_pure ?_)
    cases c with
    | true => exact wpAny_pure ⟨rfl, rfl, fun u hu => hall u (List.mem_cons_of_mem _ hu)⟩
    | false => exact wpAny_pure (wpAny_pure (h false))
  · subst hs
    obtain ⟨r1, r2⟩ := r
    simp only at hr
    subst hr
    exact wpAny_pure (h true)
theorem noClass {v : Value} (h : carriedByValue v = true) : ofAClassStatement 7 v = pure false := by
  cases v <;> first | rfl | (cases h)
theorem ofAClass_h {k : List K} {b : Addr} {Q : Bool → Shared → Prop} (hk : IsH knd s.heap k b) (h : Q false s) : wpAny (model P w) A (ofAClassStatement 8 (.ref b)) Q E s := by
  have hT := IsTupleKey.typeIs hk
  obtain ⟨o, items, n, ho, hc, hd, hi⟩ := hk
  rw [ofAClassStatement.eq_def]
  refine wpAny_bind (wpAny_typeOf hT ?_)
  have e : (("tuple" : String) == "tuple") = true := by decide
  simp only [e, if_true]
  refine wpAny_bind (wpAny_pure ?_)
  simp only [Bool.not_true, Bool.false_eq_true, if_false]
  refine wpAny_bind (wpAny_seqItems ho hd (wpAny_bind ?_))
  rw [← Array.forIn_toList]
  have all := items_kind hi
  refine wpAny_forIn_list _ (fun rest r s' => r.1 = none ∧ s' = s ∧ ∀ v ∈ rest, ∃ x, knd.is x v = true) _ (fun v rest r s' ⟨hr, hs, hall⟩ => ?_) (fun r s' ⟨hr, hs, _⟩ => ?_) items.toList (none, ()) ⟨rfl, rfl, all⟩
  · subst hs
    obtain ⟨x, hx⟩ := hall v List.mem_cons_self
    rw [noClass (knd.byValue x v hx)]
    exact wpAny_bind (wpAny_pure (wpAny_pure ⟨rfl, rfl, fun u hu => hall u (List.mem_cons_of_mem _ hu)⟩))
  · subst hs
    obtain ⟨r1, r2⟩ := r
    simp only at hr
    subst hr
    exact wpAny_pure h
theorem seen_h {k : List K} {b : Addr} {Q : Bool → Shared → Prop} (hk : IsH knd s.heap k b) {ys : List Value} (hy : ∀ y ∈ ys, ∃ k' c, y = .ref c ∧ IsH knd s.heap k' c) (h : Q false s) : wpAny (model P w) A (searchCouldBeSeen (.ref b) ys) Q E s := by
  unfold searchCouldBeSeen
  refine wpAny_bind (wpAny_forIn_list _ (fun rest r s' => r.1 = none ∧ s' = s ∧ ∀ y ∈ rest, ∃ k' c, y = .ref c ∧ IsH knd s.heap k' c) _ (fun v rest r s' ⟨hr, hs, hall⟩ => ?_) (fun r s' ⟨hr, hs, _⟩ => ?_) ys (none, ()) ⟨rfl, rfl, hy⟩)
  · subst hs
    obtain ⟨k', c, rfl, hc⟩ := hall v List.mem_cons_self
    have rest' : ∀ y ∈ rest, ∃ k' c, y = .ref c ∧ IsH knd s'.heap k' c := fun u hu => hall u (List.mem_cons_of_mem _ hu)
    simp only []
    split
    · exact wpAny_pure ⟨rfl, rfl, rest'⟩
    · refine wpAny_bind (wpAny_eqIsQuiet_tuple hk ?_)
      simp only [Bool.not_true, Bool.false_eq_true, if_false]
      refine wpAny_bind (wpAny_eqIsQuiet_tuple hc ?_)
      simp only [Bool.not_true, Bool.false_eq_true, if_false]
      refine wpAny_bind (ofAClass_h hk ?_)
      simp only [Bool.false_eq_true, if_false]
      refine wpAny_bind (ofAClass_h hc ?_)
      simp only [Bool.false_eq_true, if_false]
      exact wpAny_pure ⟨rfl, rfl, rest'⟩
  · subst hs
    obtain ⟨r1, r2⟩ := r
    simp only at hr
    subst hr
    exact wpAny_pure h
theorem probe_clean {m : Nat} : ∀ (n : Nat) (p : SetTable.Probe), p.dummy = none → (nth m p n).dummy = none
  | 0, p, h => h
  | n + 1, p, h => probe_clean n (adv m p) (by
    unfold adv
    split <;> exact h)
theorem search_from (R : SetH knd s.heap a L es ep t) {x : Addr} {k : List K} (hx : IsH knd s.heap k x) (hu : A.units < cLine) {KK : Nat} (hKf : KK < 10 * SetTable.turns t.mask) (hK : way t.mask (hsh knd k) KK ∉ t.place.toList) (hKb : ∀ c, c < KK → way t.mask (hsh knd k) c ∈ t.place.toList)
    {Q : SetFound → Shared → Prop} (hin : k ∈ L.map (·.2) → Q (.there none) s) (hout : k ∉ L.map (·.2) → Q (.free (way t.mask (hsh knd k) KK) false) s) :
    ∀ (f c : Nat) (stand : Option SetTable.Probe), stand.getD (t.probeStart (hsh knd k)) = nth t.mask (runAt t.mask (SetTable.bits (hsh knd k) % (t.mask + 1)) (SetTable.bits (hsh knd k))) c → c ≤ KK → KK - c < f →
      (∀ (i : Nat) (p : Addr × List K), L[i]? = some p → p.2 = k → ∃ c', c ≤ c' ∧ c' < KK ∧ t.place.toList[i]? = some (way t.mask (hsh knd k) c')) →
      wpAny (model P w) A (setSearchFrom a (.ref x) (hsh knd k) true f stand) Q E s := by
  intro f
  induction f with
  | zero => intro c stand _ _ hf; omega
  | succ f ih =>
    intro c stand hst hc hf hre
    obtain ⟨o, ho, hex, hd⟩ := R.ob
    rw [setSearchFrom_succ]
    refine wpAny_bind (wpAny_setState_of ho hd R.fits ?_)
    simp only []
    refine wp_if_neg R.gw ?_
    have hnd := probe_clean (m := t.mask) c (runAt t.mask (SetTable.bits (hsh knd k) % (t.mask + 1)) (SetTable.bits (hsh knd k))) rfl
    have sh : ∀ q, nth t.mask (nth t.mask (runAt t.mask (SetTable.bits (hsh knd k) % (t.mask + 1)) (SetTable.bits (hsh knd k))) c) q = nth t.mask (runAt t.mask (SetTable.bits (hsh knd k) % (t.mask + 1)) (SetTable.bits (hsh knd k))) (c + q) := fun q => (nth_add t.mask c _ q).symm
    have e1 : ∀ q, (nth t.mask (nth t.mask (runAt t.mask (SetTable.bits (hsh knd k) % (t.mask + 1)) (SetTable.bits (hsh knd k))) c) q).j = way t.mask (hsh knd k) (c + q) := fun q => congrArg SetTable.Probe.j (sh q)
    have spec := go_spec t R.tab.ris R.tab.dm (fun i => (Option.map (fun x => x.fst) es[i]?).getD 0) (hsh knd k) (10 * SetTable.turns t.mask) (KK - c) (nth t.mask (runAt t.mask (SetTable.bits (hsh knd k) % (t.mask + 1)) (SetTable.bits (hsh knd k))) c) hnd (by omega)
      (fun q hq => by rw [e1 q]; exact hKb (c + q) (by omega)) (by rw [e1, show c + (KK - c) = KK by omega]; exact hK)
    have hashAt : ∀ (i : Nat) (p : Addr × List K), L[i]? = some p → (fun i => (Option.map (fun x : Int × Value => x.fst) es[i]?).getD 0) i = hsh knd p.2 := fun i p hp => by
      show (Option.map (fun x : Int × Value => x.fst) es[i]?).getD 0 = _
      rw [R.entry hp]; rfl
    rcases spec with ⟨q, i, hq, hi, hh, hno, hpr⟩ | ⟨hno, hpr⟩
    · have hpr' : t.probe (fun i => (Option.map (fun x => x.fst) es[i]?).getD 0) (hsh knd k) (stand.getD (t.probeStart (hsh knd k))) = some (.candidate (way t.mask (hsh knd k) (c + q)) i (nth t.mask (runAt t.mask (SetTable.bits (hsh knd k) % (t.mask + 1)) (SetTable.bits (hsh knd k))) (c + (q + 1)))) := by
        rw [hst, ← e1 q, ← sh (q + 1)]; exact hpr
      rw [hpr']
      simp only []
      have hi' := hi
      rw [e1 q] at hi'
      have hil : i < L.length := by
        have h1 := (List.getElem?_eq_some_iff.mp hi').1
        have h2 := R.psz
        rw [Array.length_toList] at h1
        omega
      have hp := List.getElem?_eq_getElem hil
      have hmem := List.mem_of_getElem? hp
      have hpt := R.tup _ hmem
      have hsl := slot_live R.tab.ris hi'
      have rest : wpAny (model P w) A (searchRest a (.ref x) (hsh knd k) true f es t (way t.mask (hsh knd k) (c + q)) i (nth t.mask (runAt t.mask (SetTable.bits (hsh knd k) % (t.mask + 1)) (SetTable.bits (hsh knd k))) (c + (q + 1)))) Q E s := by
        unfold searchRest
        rw [R.entry hp]
        simp only []
        refine wpAny_bind (wpAny_holding (wpAny_eqBool_tuple hu hpt hx (wpAny_bind (wpAny_setState_of ho hd R.fits ?_))))
        simp only []
        by_cases hkk : L[i].2 = k
        · exact wp_if_pos (by simp [hkk]) (wpAny_pure (hin (List.mem_map.mpr ⟨_, hmem, hkk⟩)))
        · refine wp_if_neg (by simp [hkk]) ?_
          rw [sameMem]
          simp only [if_true, hsl, R.entry hp]
          refine wpAny_bind (wpAny_isSame_ref_self (wpAny_bind (wpAny_pure ?_)))
          simp only [if_true]
          refine wp_if_neg (by simp [hkk]) ?_
          refine ih (c + (q + 1)) _ rfl (by omega) (by omega) fun i0 p0 h0 hk0 => ?_
          obtain ⟨c', a1, a2, a3⟩ := hre i0 p0 h0 hk0
          refine ⟨c', ?_, a2, a3⟩
          rcases Nat.lt_or_ge c' (c + q) with z | z
          · exact absurd ((hashAt i0 p0 h0).trans (by rw [hk0])) (hno (c' - c) i0 (by omega) (by rw [e1, show c + (c' - c) = c' by omega]; exact a3))
          · rcases Nat.lt_or_ge (c + q) c' with y | y
            · omega
            · exfalso
              have ec : c' = c + q := by omega
              subst ec
              have s0 := slot_live R.tab.ris a3
              rw [hsl] at s0
              cases s0
              rw [hp] at h0
              cases h0
              exact hkk hk0
      by_cases hl : t.led = true
      · exact wp_if_neg (by simp [hl]) rest
      · refine wp_if_pos (by simp [hl]) (wpAny_bind (seen_h hx (fun y hy => ?_) ?_))
        · obtain ⟨e, he, ee⟩ := List.mem_map.mp hy
          have he1 : e ∈ es.toList := by
            have : e ∈ (Array.filter (fun x => x.fst == hsh knd k) es) := Array.mem_toList_iff.mp he
            exact Array.mem_toList_iff.mpr (Array.mem_filter.mp this).1
          rw [R.rows] at he1
          obtain ⟨p2, hp2, e2⟩ := List.mem_map.mp he1
          exact ⟨p2.2, p2.1, by rw [← ee, ← e2], R.tup p2 hp2⟩
        · simp only [Bool.false_eq_true, if_false]
          exact rest
    · have hpr' : t.probe (fun i => (Option.map (fun x => x.fst) es[i]?).getD 0) (hsh knd k) (stand.getD (t.probeStart (hsh knd k))) = some (.empty (way t.mask (hsh knd k) KK) none) := by
        have e2 : way t.mask (hsh knd k) KK = (nth t.mask (nth t.mask (runAt t.mask (SetTable.bits (hsh knd k) % (t.mask + 1)) (SetTable.bits (hsh knd k))) c) (KK - c)).j := by rw [e1, show c + (KK - c) = KK by omega]
        rw [hst, e2]; exact hpr
      rw [hpr']
      simp only []
      refine wpAny_pure (hout fun hm => ?_)
      obtain ⟨p0, h0, hk0⟩ := List.mem_map.mp hm
      obtain ⟨i0, hi0, e0⟩ := List.getElem_of_mem h0
      have h00 : L[i0]? = some p0 := by rw [List.getElem?_eq_getElem hi0, e0]
      obtain ⟨c', a1, a2, a3⟩ := hre i0 p0 h00 hk0
      exact hno (c' - c) i0 (by omega) (by rw [e1, show c + (c' - c) = c' by omega]; exact a3) ((hashAt i0 p0 h00).trans (by rw [hk0]))
theorem search_at (R : SetH knd s.heap a L es ep t) {x : Addr} {k : List K} (hx : IsH knd s.heap k x) (hu : A.units < cLine) {Q : SetFound → Shared → Prop} (hin : k ∈ L.map (·.2) → Q (.there none) s)
    (hout : ∀ KK, k ∉ L.map (·.2) → way t.mask (hsh knd k) KK ∉ t.place.toList → (∀ c, c < KK → way t.mask (hsh knd k) c ∈ t.place.toList) → Q (.free (way t.mask (hsh knd k) KK) false) s) :
    wpAny (model P w) A (setSearch a (.ref x) (hsh knd k) true) Q E s := by
  have hroom := R.room
  obtain ⟨KK, hKf, hK, hKb⟩ := R.tab.first (by rw [List.length_map]; omega) (hsh knd k)
  have big : SetTable.turns t.mask ≤ 200 := by
    show t.mask + 15 ≤ 200
    rcases R.tab.mok with e | e | e <;> omega
  refine search_from R hx hu hKf hK hKb hin (fun hn => hout KK hn hK hKb) 100000 0 none rfl (Nat.zero_le _) (by omega) fun i p hp hk => ?_
  have hi : (L.map fun p => hsh knd p.2)[i]? = some (hsh knd k) := by rw [List.getElem?_map, hp, ← hk]; rfl
  have hil : i < t.place.toList.length := by
    have h1 := (List.getElem?_eq_some_iff.mp hp).1
    have h2 := R.psz
    rw [Array.length_toList]; omega
  have hj := List.getElem?_eq_getElem hil
  obtain ⟨c, hc, e⟩ := R.tab.before hK hi hj
  exact ⟨c, Nat.zero_le _, hc, by rw [hj, e]⟩
theorem range_all {α : Type} : ∀ (L : List α) (k : Nat) (F : Nat → Option α), (∀ i, F (k + i) = L[i]?) → (List.range' k L.length).filterMap F = L
  | [], _, _, _ => rfl
  | x :: r, k, F, h => by
    have h0 : F k = some x := h 0
    rw [List.length_cons, List.range'_succ, List.filterMap_cons, h0]
    simp only []
    rw [range_all r (k + 1) F fun i => by have := h (i + 1); rw [show k + 1 + i = k + (i + 1) by omega, this]; rfl]
theorem order_rowsH (L : List (Addr × List K)) (es : Array (Int × Value)) (order : Array Nat) (h : es.toList = rowsH knd L) (hp : order.toList.Perm (List.range L.length)) :
    ∃ L2, (Array.filterMap (fun x => es[x]?) order).toList = rowsH knd L2 ∧ L2.Perm L ∧ (L2.map fun p => hsh knd p.2) = order.toList.map fun i => (Array.map (fun x : Int × Value => x.fst) es).getD i 0 := by
  have get : ∀ i : Nat, es[i]? = (L[i]?).map fun p => (hsh knd p.2, Value.ref p.1) := fun i => by
    rw [← Array.getElem?_toList, h]; simp [rowsH]
  refine ⟨order.toList.filterMap fun i => L[i]?, ?_, ?_, ?_⟩
  · rw [Array.toList_filterMap]
    unfold rowsH
    rw [List.map_filterMap]
    congr 1
    funext i
    exact get i
  · have := hp.filterMap fun i => L[i]?
    rw [List.range_eq_range', range_all L 0 (fun i => L[i]?) fun i => by rw [Nat.zero_add]] at this
    exact this
  · have lt : ∀ i ∈ order.toList, i < L.length := fun i hi => List.mem_range.mp (hp.mem_iff.mp hi)
    generalize order.toList = l at lt
    clear hp
    induction l with
    | nil => rfl
    | cons i r ih =>
      have hi := lt i List.mem_cons_self
      have e1 : L[i]? = some L[i] := List.getElem?_eq_getElem hi
      have e2 : (Array.map (fun x : Int × Value => x.fst) es).getD i 0 = hsh knd L[i].2 := by
        have : (Array.map (fun x : Int × Value => x.fst) es)[i]? = some (hsh knd L[i].2) := by rw [Array.getElem?_map, get i, e1]; rfl
        rw [Array.getD_eq_getD_getElem?, this]; rfl
      rw [List.filterMap_cons, e1]
      simp only [List.map_cons]
      rw [ih fun j hj => lt j (List.mem_cons_of_mem _ hj), e2]
theorem relay_at {o : Obj} (ho : s.heap.get? a = some o) (hex : o.ExactSet) (hd : o.data = .set es ep t) (hrows : es.toList = rowsH knd L) (hsz : t.place.size = es.size) (hdm : t.dummies = #[]) (hfl : es.size ≤ t.mask) (nd : (L.map (·.2)).Nodup) (tup : ∀ p ∈ L, IsH knd s.heap p.2 p.1)
    (ld : w.params.followText "set-order" = true ∨ t.led = true) (few : L.length < 64) {wanted M : Nat} (hw : SetTable.sizeAbove wanted - 1 = M) (hM : MaskOk M) (hw2 : SetTable.sizeAbove wanted ≤ 128) (hn : L.length * 5 < M * 3) {Q : Unit → Shared → Prop}
    (hQ : ∀ h' L' es' ep' t', Heap.SameBut a s.heap h' → SetH knd h' a L' es' ep' t' → L'.Perm L → Q () { heap := h', gens := s.gens, drawn := s.drawn, toks := s.toks, os := s.os }) : wpAny (model P w) A (setRelay a wanted) Q E s := by
  have hsl : es.size = L.length := by
    have := congrArg List.length hrows
    rw [Array.length_toList] at this
    rw [this]; simp [rowsH]
  have hfits : t.fits es.size = true := by
    show (t.place.size == es.size && decide (t.fill ≤ t.mask)) = true
    have e : t.fill = t.place.size + t.dummies.size := rfl
    rw [e, hdm, Bool.and_eq_true, beq_iff_eq, decide_eq_true_eq]
    refine ⟨hsz, ?_⟩
    show t.place.size + 0 ≤ t.mask
    omega
  obtain ⟨t', order, e, hp, T, em, el, ep', ed⟩ := relaid_ok t (hs := Array.map (fun x : Int × Value => x.fst) es) hw hM (by rw [Array.size_map]; omega)
  rw [Array.size_map, hsl] at hp
  obtain ⟨L2, r1, r2, r3⟩ := order_rowsH L es order hrows hp
  have hs2 : (Array.filterMap (fun x => es[x]?) order).size = es.size := by
    have := congrArg List.length r1
    rw [Array.length_toList] at this
    rw [this]
    simp only [rowsH, List.length_map]
    rw [r2.length_eq, hsl]
  rw [setRelay_eq]
  refine wpAny_bind (wpAny_setState_of ho hd hfits ?_)
  simp only []
  refine wp_if_neg (by rw [sizeLine_eq]; omega) ?_
  rw [e]
  simp only []
  refine wpAny_bind (wp_if_neg (by rw [hs2]; simp) (wpAny_pure ?_))
  simp only []
  have sb := Heap.SameBut.update s.heap a (Obj.putSet (Array.filterMap (fun x => es[x]?) order) t')
  refine wpAny_storeSet_of ho hd (hQ _ L2 _ (ep + 1) t' sb ⟨⟨_, store_at ho hd, hex, rfl⟩, r1, by rw [r3]; exact T, (r2.map _).nodup_iff.mpr nd, fun p hpm => isH_same (tup p (r2.mem_iff.mp hpm)) ho hd sb, ld.imp id fun z => by rw [el]; exact z, by rw [r2.length_eq, em]; exact hn, by rw [r2.length_eq]; exact few⟩ r2) (by rw [hs2, hsl, sizeLine_eq]; omega)
theorem rows_put (L : List (Addr × List K)) (p : Nat) (x : Addr) (k : List K) : rowsH knd (L.take p ++ (x, k) :: L.drop p) = (rowsH knd L).take p ++ (hsh knd k, Value.ref x) :: (rowsH knd L).drop p := by
  unfold rowsH
  rw [List.map_append, List.map_cons, List.map_take, List.map_drop]
theorem add_at (hb : HB knd) (R : SetH knd s.heap a L es ep t) {x : Addr} {k : List K} (hx : IsH knd s.heap k x) (hu : A.units < cLine) (hfew : L.length + 1 < 64) {Q : Bool → Shared → Prop}
    (hQ : ∀ (b : Bool) (h' : Heap) (L' : List (Addr × List K)) es' ep' t', Heap.SameBut a s.heap h' → SetH knd h' a L' es' ep' t' → (k ∈ L.map (·.2) → L' = L) → (k ∉ L.map (·.2) → L'.Perm ((x, k) :: L)) → Q b { heap := h', gens := s.gens, drawn := s.drawn, toks := s.toks, os := s.os }) :
    wpAny (model P w) A (setAddHashed a (.ref x) (hsh knd k)) Q E s := by
  obtain ⟨o, ho, hex, hd⟩ := R.ob
  show wpAny (model P w) A (holding [.ref x] (setAddHashedIn a (.ref x) (hsh knd k) 100000)) Q E s
  rw [setAddHashedIn_succ]
  refine wpAny_holding (wpAny_bind (wpAny_setState_of ho hd R.fits ?_))
  simp only []
  refine wp_if_neg (by
    have : byScan (.ref x) es = false := rfl
    rw [this]; simp) ?_
  refine wpAny_bind (search_at R hx hu (fun hin => ?_) fun KK hm hK hKb => ?_)
  · exact wpAny_pure (hQ false s.heap L es ep t ⟨rfl, fun _ _ => rfl⟩ R (fun _ => rfl) fun z => absurd hin z)
  · simp only []
    refine wpAny_bind (wpAny_setState_of ho hd R.fits ?_)
    obtain ⟨q1, q2, q3, q4, q5, q6, q7, q8, q9⟩ := R.tab.put (h := hsh knd k) hK hKb
    simp only []
    generalize t.put (way t.mask (hsh knd k) KK) = z at q1 q3 q4 q5 q6 q7 q8 q9
    obtain ⟨t1, p⟩ := z
    simp only at q1 q3 q4 q5 q6 q7 q8 q9 ⊢
    subst q1
    generalize SetTable.below t.place (way t.mask (hsh knd k) KK) = p at q2 q3
    have hin : (SetTable.insertAt es p (hsh knd k, Value.ref x)).toList = rowsH knd (L.take p ++ (x, k) :: L.drop p) := by
      rw [SetTable.toList_insertAt, rows_put, R.rows]
    have hhs : ((L.take p ++ (x, k) :: L.drop p).map fun p => hsh knd p.2) = (L.map fun p => hsh knd p.2).take p ++ hsh knd k :: (L.map fun p => hsh knd p.2).drop p := by
      rw [List.map_append, List.map_cons, List.map_take, List.map_drop]
    have pm := put_perm L p (x, k)
    generalize L.take p ++ (x, k) :: L.drop p = L1 at hin hhs pm
    rw [← hhs] at q3
    have hlen : L1.length = L.length + 1 := by rw [pm.length_eq]; rfl
    have nd1 : (L1.map (·.2)).Nodup := (pm.map (·.2)).nodup_iff.mpr (by rw [List.map_cons]; exact List.nodup_cons.mpr ⟨hm, R.nd⟩)
    have hes : (SetTable.insertAt es p (hsh knd k, Value.ref x)).size = L.length + 1 := by
      have := congrArg List.length hin
      rw [Array.length_toList] at this
      rw [this]; simp [rowsH, hlen]
    generalize SetTable.insertAt es p (hsh knd k, Value.ref x) = es1 at hin hes
    have hroom := R.room
    have fill : t1.fill = L.length + 1 := by rw [q9, List.length_map]
    have psz : t1.place.size = L.length + 1 := by
      have := q3.sz
      rw [List.length_map] at this; omega
    -- the tables with and without the mark
    have go : ∀ tt : SetTable, TabOk tt (L1.map fun p => hsh knd p.2) → tt.mask = t.mask → tt.led = t.led → tt.fill = L.length + 1 → tt.place.size = L.length + 1 → wpAny (model P w) A (do
        storeSet a es1 tt
        if (!false && tt.tooFull) = true then do
          setRelay a (SetTable.grown (es.size + 1))
          pure true
        else pure true) Q E s := by
      intro tt q3 q4 q5 fill psz
      refine wpAny_bind (wpAny_storeSet_of ho hd ?_ (by rw [hes, sizeLine_eq]; omega))
      have ho1 := store_at (es' := es1) (t' := tt) ho hd
      have sb := Heap.SameBut.update s.heap a (Obj.putSet es1 tt)
      have tup1 : ∀ p ∈ L1, IsH knd (s.heap.update a (Obj.putSet es1 tt)) p.2 p.1 := fun p hp => by
        rcases List.mem_cons.mp (pm.mem_iff.mp hp) with e | e
        · subst e; exact isH_same hx ho hd sb
        · exact isH_same (R.tup p e) ho hd sb
      have ld1 : w.params.followText "set-order" = true ∨ tt.led = true := R.led.imp id fun z => by rw [q5]; exact z
      by_cases c : tt.tooFull = true
      · rw [if_pos (by rw [c]; rfl)]
        have hf : tt.fill * 5 ≥ tt.mask * 3 := of_decide_eq_true c
        rw [fill, q4] at hf
        have hsize := R.size
        have cases2 : (t.mask = 7 ∧ L.length = 4) ∨ (t.mask = 31 ∧ L.length = 18) := by
          rcases R.tab.mok with e | e | e <;> rw [e] at hf hroom
          · exact .inl ⟨e, by omega⟩
          · exact .inr ⟨e, by omega⟩
          · omega
        have rl : ∀ M, SetTable.sizeAbove (SetTable.grown (es.size + 1)) - 1 = M → MaskOk M → SetTable.sizeAbove (SetTable.grown (es.size + 1)) ≤ 128 → L1.length * 5 < M * 3 → wpAny (model P w) A (do
            setRelay a (SetTable.grown (es.size + 1))
            pure true) Q E { heap := s.heap.update a (Obj.putSet es1 tt), gens := s.gens, drawn := s.drawn, toks := s.toks, os := s.os } := fun M h1 h2 h3 h4 =>
          wpAny_bind (relay_at (s := { heap := s.heap.update a (Obj.putSet es1 tt), gens := s.gens, drawn := s.drawn, toks := s.toks, os := s.os }) ho1 ⟨hex.1, hex.2.1, hex.2.2⟩ rfl hin (by rw [psz, hes]) q3.dm (by rw [hes, q4]; rcases cases2 with ⟨e, e2⟩ | ⟨e, e2⟩ <;> omega) nd1 tup1 ld1 (by omega) h1 h2 h3 h4 fun h2' L2 es2 ep2 t2 sb2 R2 pm2 => wpAny_pure (hQ true h2' L2 es2 ep2 t2 (sb.trans sb2) R2 (fun z => absurd z hm) fun _ => pm2.trans pm))
        rcases cases2 with ⟨e, e2⟩ | ⟨e, e2⟩
        · have e5 : es.size + 1 = 5 := by omega
          refine rl 31 (by rw [e5, size_20]) (.inr (.inl rfl)) (by rw [e5, size_20]; decide) (by omega)
        · have e5 : es.size + 1 = 19 := by omega
          refine rl 127 (by rw [e5, size_76]) (.inr (.inr rfl)) (by rw [e5, size_76]; decide) (by omega)
      · rw [if_neg (by rw [Bool.eq_false_iff.mpr c]; simp)]
        have hf : ¬ tt.fill * 5 ≥ tt.mask * 3 := fun z => c (decide_eq_true z)
        rw [fill, q4] at hf
        exact wpAny_pure (hQ true _ L1 es1 _ tt sb ⟨⟨_, ho1, hex, rfl⟩, hin, q3, nd1, tup1, ld1, by rw [hlen, q4]; omega, by omega⟩ (fun z => absurd z hm) fun _ => pm)
    have go2 := go { mask := t1.mask, place := t1.place, dummies := t1.dummies, finger := t1.finger, led := t1.led, moves := t1.moves, plain := false } ⟨q3.ris, q3.dm, q3.sz, q3.mok, q3.bd, q3.reach⟩ q4 q5 fill psz
    have go1 := go t1 q3 q4 q5 fill psz
    by_cases c : t1.plain = true
    · rw [if_pos c]
      refine wpAny_bind (hashBy_h hb hx fun r => ?_)
      cases r with
      | true => simp only [if_true]; exact go1
      | false => simp only [Bool.false_eq_true, if_false]; exact go2
    · rw [if_neg c]
      refine wpAny_bind (wpAny_pure ?_)
      simp only [if_true]
      exact go1
end
section
variable {P : Program} {w : World} {K : Type} [DecidableEq K] {knd : KeyKind P w K}
structure GotH (ks : List (Addr × List K)) (i : Nat) (L : List (Addr × List K)) : Prop where
  sub : ∀ p ∈ L, p ∈ ks.take i
  all : ∀ p ∈ ks.take i, p.2 ∈ L.map (·.2)
theorem GotH.zero (ks : List (Addr × List K)) : GotH ks 0 [] := ⟨(fun _ h => by cases h), fun _ h => by simp at h⟩
theorem GotH.step {ks : List (Addr × List K)} {i : Nat} {L L' : List (Addr × List K)} (g : GotH ks i L) {p : Addr × List K} (hp : ks[i]? = some p) (c1 : p.2 ∈ L.map (·.2) → L' = L) (c2 : p.2 ∉ L.map (·.2) → L'.Perm (p :: L)) : GotH ks (i + 1) L' := by
  have e : ks.take (i + 1) = ks.take i ++ [p] := by rw [List.take_add_one, hp]; rfl
  by_cases c : p.2 ∈ L.map (·.2)
  · rw [c1 c]
    refine ⟨fun q hq => by rw [e]; exact List.mem_append_left _ (g.sub q hq), fun q hq => ?_⟩
    rw [e] at hq
    rcases List.mem_append.mp hq with h | h
    · exact g.all q h
    · rw [List.mem_singleton.mp h]; exact c
  · have pm := c2 c
    refine ⟨fun q hq => ?_, fun q hq => ?_⟩
    · rw [e]
      rcases List.mem_cons.mp (pm.mem_iff.mp hq) with h | h
      · rw [h]; exact List.mem_append_right _ (List.mem_singleton.mpr rfl)
      · exact List.mem_append_left _ (g.sub q h)
    · rw [e] at hq
      rw [(pm.map (·.2)).mem_iff, List.map_cons]
      rcases List.mem_append.mp hq with h | h
      · exact List.mem_cons_of_mem _ (g.all q h)
      · rw [List.mem_singleton.mp h]; exact List.mem_cons_self
theorem SetH.at {h h' : Heap} {a : Addr} {L : List (Addr × List K)} {es : Array (Int × Value)} {ep : Nat} {t : SetTable} (R : SetH knd h a L es ep t) (k : ∀ o, h.get? a = some o → h'.get? a = some o) (kp : ∀ p ∈ L, ∀ o, h.get? p.1 = some o → h'.get? p.1 = some o) : SetH knd h' a L es ep t :=
  ⟨let ⟨o, ho, r⟩ := R.ob; ⟨o, k o ho, r⟩, R.rows, R.tab, R.nd, fun p hp => isH_at (R.tup p hp) (kp p hp), R.led, R.room, R.few⟩
theorem GotH.len {ks : List (Addr × List K)} {i : Nat} {L : List (Addr × List K)} (g : GotH ks i L) (nd : (L.map (·.2)).Nodup) (hi : i ≤ ks.length) : L.length ≤ i := by
  have n2 : L.Nodup := nodup_of_map nd
  have := n2.length_le_of_subset (l₂ := ks.take i) fun p hp => g.sub p hp
  rw [List.length_take] at this
  omega
variable {A : Around} {I : Addr} {fp wr : List Addr} {G : Array GenState → Array GenState → Prop} {n : Nat} {Pv : Nat → Value → Prop} {St : Nat → Shared → Prop} {R : Result → Shared → Prop}
theorem set_update_h (hb : HB knd) (W : WalksS P w A.in1 I fp wr G n Pv St) (S : Addr) (hSf : S ∉ fp) (ks : List (Addr × List K)) (hn : n = ks.length) (few : ks.length < 64) (hval : ∀ i v, Pv i v → ∃ p, ks[i]? = some p ∧ v = .ref p.1) (h0 : Heap) (hT : ∀ p ∈ ks, IsH knd h0 p.2 p.1) (hS0 : h0.get? S = none) (hw0 : ∀ b ∈ wr, h0.get? b = none) (hu : A.in1.units < cLine) :
    ∀ (k i : Nat) (s : Shared), n - i = k → i ≤ n → St i s → (∀ b o, h0.get? b = some o → s.heap.get? b = some o) → (∃ L es ep t, SetH knd s.heap S L es ep t ∧ GotH ks i L) →
      (∀ (s' : Shared) L es ep t, Moved (S :: wr) G s s' → SetH knd s'.heap S L es ep t → GotH ks n L → (∀ b o, h0.get? b = some o → s'.heap.get? b = some o) → R (.ok (.ret .none)) s') →
      codeAny (model P w) A (.builtin "set.update.loop" { pos := [.ref S, .ref I] }) R s := by
  have hSw : S ∉ wr := fun h => hSf (W.sub S h)
  have hsub : ∀ b ∈ wr, b ∈ S :: wr := fun b hb => List.mem_cons_of_mem S hb
  intro k
  induction k with
  | zero =>
    rintro i s hk' hi hst kp ⟨L, es, ep, t, hS, g⟩ hR
    have hin : i = n := by omega
    subst hin
    refine codeAny_builtin PyProof.Rows.F.entry_set_update_loop ?_
    rw [Around.under_plainId PyProof.Rows.F.plain_set_update_loop]
    refine wpAny_bind (W.done s _ _ hst fun s' hm => ?_)
    have kp' : ∀ b o, h0.get? b = some o → s'.heap.get? b = some o := fun b o e => hm.heap b o (fun z => by have := hw0 b z; rw [e] at this; cases this) (kp b o e)
    refine wpAny_pure (hR s' L es ep t (hm.mono hsub) (hS.at (fun o e => hm.heap S o hSw e) fun p hp o e => ?_) g kp')
    have hp0 : p ∈ ks := List.mem_of_mem_take (g.sub p hp)
    obtain ⟨o0, _, _, h1, _⟩ := hT p hp0
    have := kp p.1 o0 h1
    rw [e] at this; cases this
    exact kp' p.1 o h1
  | succ k ih =>
    rintro i s hk' hi hst kp ⟨L, es, ep, t, hS, g⟩ hR
    have hlt : i < n := by omega
    refine codeAny_builtin PyProof.Rows.F.entry_set_update_loop ?_
    rw [Around.under_plainId PyProof.Rows.F.plain_set_update_loop]
    refine wpAny_bind (W.item i s _ _ hlt hst fun v s' hP hst' hm => ?_)
    obtain ⟨p, hp, rfl⟩ := hval i v hP
    have kp' : ∀ b o, h0.get? b = some o → s'.heap.get? b = some o := fun b o e => hm.heap b o (fun z => by have := hw0 b z; rw [e] at this; cases this) (kp b o e)
    have hS' : SetH knd s'.heap S L es ep t := hS.at (fun o e => hm.heap S o hSw e) fun q hq o e => by
      have hp0 : q ∈ ks := List.mem_of_mem_take (g.sub q hq)
      obtain ⟨o0, _, _, h1, _⟩ := hT q hp0
      have := kp q.1 o0 h1
      rw [e] at this; cases this
      exact kp' q.1 o h1
    have hx : IsH knd s'.heap p.2 p.1 := isH_at (hT p (List.mem_of_getElem? hp)) fun o e => kp' _ o e
    have glen := g.len hS.nd (by omega)
    refine wpAny_bind (wpAny_holding (wpAny_holding (wpAny_bind (wpAny_pyHash_tuple hu hx (add_at (s := { heap := s'.heap, gens := s'.gens, drawn := s'.drawn, toks := s'.toks + (p.2.length + 1), os := s'.os }) hb hS' hx hu (by omega) fun b h' L' es' ep' t' hsb hS2 c1 c2 => ?_)))))
    have kp2 : ∀ b o, h0.get? b = some o → h'.get? b = some o := fun b o e => by
      have ne : b ≠ S := fun z => by subst z; rw [hS0] at e; cases e
      rw [hsb.2 b ne]; exact kp' b o e
    refine wpAny_pure ⟨plainId_quiet PyProof.Rows.F.plain_set_update_loop _, ih (i + 1) _ (by omega) hlt (W.frame (i + 1) s' h' _ hst' (Nat.le_add_right _ _) fun b hb o e => by rw [hsb.2 b fun h => hSf (h ▸ hb)]; exact e) kp2 ⟨L', es', ep', t', hS2, g.step hp c1 c2⟩ fun s'' L2 es2 ep2 t2 hm'' hS'' g'' kp'' => hR s'' L2 es2 ep2 t2 (Moved.trans W.gtrans (Moved.then_heap (hm.mono hsub) (Nat.le_add_right _ _) fun b o hb e => by rw [hsb.2 b fun h => hb (h ▸ List.mem_cons_self)]; exact e) hm'') hS'' g'' kp''⟩
end
section
variable {P : Program} {w : World} {K : Type} [DecidableEq K] {knd : KeyKind P w K} {A : Around} {E : Value → Shared → Prop} {s : Shared}
theorem setH_new {h : Heap} {a : Addr} (ho : h.get? a = some (Gd.nu w)) : SetH knd h a [] #[] 0 (.fresh 0 0 (!w.params.followText "set-order")) where
  ob := ⟨_, ho, ⟨rfl, rfl, rfl⟩, rfl⟩
  rows := rfl
  tab := ⟨List.Pairwise.nil, rfl, rfl, .inl rfl, fun x hx => (by cases hx), fun i h j hi => (by simp at hi)⟩
  nd := List.nodup_nil
  tup := fun p hp => (by cases hp)
  led := by
    cases h : w.params.followText "set-order" with
    | false => exact .inr rfl
    | true => exact .inl rfl
  room := by
    show 0 * 5 < 7 * 3
    decide
  few := by
    show (0 : Nat) < 64
    decide
abbrev FillH (knd : KeyKind P w K) (s : Shared) (ks : List (Addr × List K)) (E : Value → Shared → Prop) : Result → Shared → Prop := wants (fun r z => r = .none ∧ ∃ g k L es ep t, z = { s with heap := g, toks := k } ∧ SetH knd g s.heap.objs.size L es ep t ∧ GotH ks ks.length L ∧ ∀ b o, s.heap.get? b = some o → g.get? b = some o) E
theorem set_of_tups (hb : HB knd) {l : Addr} {its : Array Value} (ks : List (Addr × List K)) {G : Value → Shared → Prop} (off : A.handled = none) (hl : s.heap.IsTuple l its) (iv : its.toList = ks.map fun p => Value.ref p.1) (hk : ∀ p ∈ ks, IsH knd s.heap p.2 p.1) (few : ks.length < 64) (hu : A.units + 3 < cLine)
    (go : ∀ (g : Heap) (k : Nat) L es ep t, SetH knd g s.heap.objs.size L es ep t → GotH ks ks.length L → (∀ b o, s.heap.get? b = some o → g.get? b = some o) → G (.ref s.heap.objs.size) { s with heap := g, toks := k }) :
    wpAny (model P w) A (call (.type "set") [.ref l]) G E s := by
  have n_its : its.size = ks.length := by
    have q := congrArg List.length iv
    rw [Array.length_toList, List.length_map] at q
    exact q
  have at0 : (s.heap.push (Gd.nu w)).get? s.heap.objs.size = some (Gd.nu w) := Heap.get?_push_size _ rfl
  have big : (s.heap.push (Gd.nu w)).objs.size = s.heap.objs.size + 1 := Heap.size_push ..
  obtain ⟨cm, tm, hmro⟩ := F.called_set.mro
  have k1 := F.called_set.made; have k2 := F.called_set.sub
  refine wpAny_call (codeAny_of_tree (show wpAny _ _ (callAny (.type "set") _) _ _ _ from wpAny_pure ⟨Code.quiet_builtin _ (by decide +kernel), codeAny_builtin F.entry_type_call ?_⟩))
  rw [Around.under_plain (weight_type_call_type "set" [.ref l] []) rfl]
  have k3 := F.called_set.notType; have k4 := F.called_set.canCreate; have k5 := F.typeCall_set_1 (.ref l)
  repeat (any_goals (first | assumption | wp_step))
  refine codeAny_mono (code_set_led1 (.ref l) (E := E) (Q₁ := fun x z => x = .ref s.heap.objs.size ∧ z = { s with heap := s.heap.push (Gd.nu w) }) ⟨rfl, rfl⟩) fun r z hr => ?_
  match r, hr with
  | .error e, hr => exact hr
  | .ok (.ret x), hr =>
    obtain ⟨rfl, rfl⟩ := hr
    have ty : Shared.TypeIs { s with heap := s.heap.push (Gd.nu w) } (.ref s.heap.objs.size) "set" := ⟨_, at0, rfl⟩
    have k6 := F.called_set.init.lookup; have k7 := F.called_set.init.bind (.ref s.heap.objs.size)
    repeat (any_goals (first | assumption | wp_step))
    refine codeAny_mono (codeAny_call_builtin (R := FillH knd s ks E) F.called_set.init.plain F.entry_set_init (check_set_init_1 ty ?_)) fun r2 z2 hr2 => ?_
    · obtain ⟨⟨c0, d0, dt, sl⟩, hol, hc, m, hd⟩ := hl
      simp only at hc hd
      subst hc hd
      have lk := Heap.get?_push_of_some (Gd.nu w) hol
      have at1 : (s.heap.push (Gd.nu w)).IsTuple l its := ⟨_, lk, rfl, m, rfl⟩
      have low : l < s.heap.objs.size := Heap.lt_size hol
      have p1 := PySem.F.sub_tuple_set; have p2 := PySem.F.sub_tuple_frozenset
      have p3 : (Value.type "tuple" == Value.type "dict") = false := by decide
      unfold Builtin.«set.__init__» noKeywords Builtin.Frozenset.updateFrom
      generalize hPI : pyIter = PI
      wp_walk
      subst hPI
      refine wpAny_pyIter_tuple at1 (wpAny_bind (wpAny_runValue ?_))
      have off3 : A.in1.in1.in1.handled = none := by simp [off]
      have apart : l ≠ (s.heap.push (Gd.nu w)).objs.size := by rw [big]; exact Nat.ne_of_lt (Nat.lt_succ_of_lt low)
      have mine : s.heap.objs.size ∉ [(s.heap.push (Gd.nu w)).objs.size, l] := fun z => by
        rcases List.mem_cons.mp z with z | z
        · exact absurd (z.trans big) (Nat.ne_of_lt (Nat.lt_succ_self _))
        · exact absurd (List.mem_singleton.mp z) (Nat.ne_of_gt low)
      have none_of : ∀ b, s.heap.objs.size ≤ b → s.heap.get? b = none := fun b hb => by
        cases q : s.heap.get? b with
        | none => rfl
        | some o => exact absurd (Nat.lt_of_lt_of_le (Heap.lt_size q) hb) (Nat.lt_irrefl _)
      have hval : ∀ (i : Nat) (v : Value), its[i]? = some v → ∃ p, ks[i]? = some p ∧ v = .ref p.1 := fun i v hv => by
        have q : its.toList[i]? = some v := by rw [Array.getElem?_toList]; exact hv
        rw [iv, List.getElem?_map] at q
        cases hq : ks[i]? with
        | none => rw [hq] at q; cases q
        | some p =>
          rw [hq] at q
          exact ⟨p, rfl, (Option.some.inj q).symm⟩
      refine set_update_h hb ((Walks.tuple off3 _ l apart its).toS) s.heap.objs.size mine ks n_its few hval s.heap hk (none_of _ (Nat.le_refl _)) (fun b hb => none_of b (by
          rw [List.mem_singleton.mp hb, big]
          exact Nat.le_succ _)) hu (its.size - 0) 0 _ (by omega) (Nat.zero_le _) ⟨⟨_, Heap.get?_push_size _ rfl, rfl, rfl⟩, at1.push _⟩ (fun b o e => Heap.get?_push_of_some _ (Heap.get?_push_of_some _ e))
        ⟨[], #[], 0, _, setH_new (Heap.get?_push_of_some _ at0), GotH.zero ks⟩ fun z L es ep t mv hS gt kp => ?_
      obtain ⟨g, g2, d2, k, o2⟩ := z
      obtain rfl : g2 = s.gens := mv.gens
      obtain rfl : d2 = s.drawn := mv.drawn
      obtain rfl : o2 = s.os := mv.os
      rw [n_its] at gt
      exact wpAny_pure (show wpAny _ _ (ret Value.none) _ _ _ from wpAny_pure ⟨rfl, g, k, L, es, ep, t, rfl, hS, gt, kp⟩)
    · match r2, hr2 with
      | .error e, hr2 => exact hr2
      | .ok (.ret x), hr2 =>
        obtain ⟨rfl, g, k, L, es, ep, t, rfl, hS, gt, kp⟩ := hr2
        repeat (any_goals (first | assumption | wp_step))
        exact go g k L es ep t hS gt kp
theorem refs_each {α : Type} : ∀ {vs : List Value} {L : List (Addr × α)}, vs.Perm (L.map fun q => Value.ref q.1) → ∃ L1 : List (Addr × α), L1.Perm L ∧ vs = L1.map fun q => Value.ref q.1 := by
  intro vs L pm
  generalize hv : (L.map fun q => Value.ref q.1) = us at pm
  induction pm generalizing L with
  | nil =>
    cases L with
    | nil => exact ⟨[], .refl _, rfl⟩
    | cons a b => cases hv
  | cons x p ih =>
    cases L with
    | nil => cases hv
    | cons a b =>
      obtain ⟨h1, h2⟩ := List.cons.inj hv
      obtain ⟨L1, p1, e1⟩ := ih h2
      exact ⟨a :: L1, p1.cons a, by rw [List.map_cons, e1, ← h1]⟩
  | swap x y l =>
    cases L with
    | nil => cases hv
    | cons a b =>
      cases b with
      | nil => cases hv
      | cons c d =>
        obtain ⟨h1, h2⟩ := List.cons.inj hv
        obtain ⟨h3, h4⟩ := List.cons.inj h2
        exact ⟨c :: a :: d, .swap a c d, by rw [List.map_cons, List.map_cons, ← h1, ← h3, h4]⟩
  | trans p1 p2 ih1 ih2 =>
    obtain ⟨L1, q1, e1⟩ := ih2 hv
    obtain ⟨L2, q2, e2⟩ := ih1 e1.symm
    exact ⟨L2, q2.trans q1, e2⟩
/-- sorted(set of tuples), enc: how a key list reads -/
theorem sorted_setH {a : Addr} {L : List (Addr × List K)} {es : Array (Int × Value)} {ep : Nat} {t : SetTable} {Q : Value → Shared → Prop} (R : SetH knd s.heap a L es ep t) (enc : List K → PyData) (hh : A.handled = none)
    (rd : ∀ (h : Heap) (k : List K) (b : Addr), IsH knd h k b → Reads h (.ref b) (enc k) []) (hal : W.AllAlike (L.map fun p => enc p.2)) (hk : W.Sortable (L.map fun p => enc p.2)) (hu : ∀ p ∈ L, A.units + 2 + (enc p.2).depth < cLine)
    (hQ : ∀ (s' : Shared) (p : Nat) (out : List Value) (c : Nat) (L1 : List (Addr × List K)), (∀ b o, s.heap.get? b = some o → s'.heap.get? b = some o) → s'.gens = s.gens → s'.os = s.os → s.heap.objs.size ≤ p →
      s'.heap.get? p = some (PyProof.Rows.seqObj "list" out.toArray c) → L1.Perm L → W.EachIs (fun v (q : Addr × List K) => v = .ref q.1 ∧ q ∈ L) out (L1.mergeSort (W.dataLe false fun q => enc q.2)) → Q (.ref p) s') :
    wpAny (model P w) A (call (.builtin "sorted") [.ref a]) Q E s := by
  obtain ⟨o, ho, hex, hd⟩ := R.ob
  have hsz := R.size
  have hfew := R.few
  refine Calls.call_function_entry PyProof.Rows.kind_sorted PyProof.Rows.plain_sorted PyProof.Rows.entry_sorted (PyProof.Rows.args_sorted1 (.ref a)) ?_
  refine wpAny_bind (wpAny_pure (wpAny_bind (collect_set hh ⟨o, ho, hex.1, hd⟩ R.fits (by unfold scanBound; omega) R.tab.ris R.led fun s1 vs k1 hz g1 o1 pm => ?_)))
  have hes : es.toList.map (·.2) = L.map fun q => Value.ref q.1 := by
    rw [R.rows]
    unfold rowsH
    rw [List.map_map] <;> rfl
  rw [hes] at pm
  obtain ⟨L1, p1, rfl⟩ := refs_each pm
  have lv : L1.length = L.length := p1.length_eq
  have small : (L1.map fun q => Value.ref q.1).length ≤ sizeLine := by rw [List.length_map, lv, sizeLine_eq]; omega
  refine wpAny_bind (wpAny_newList ?_ small)
  have hoL : (s1.heap.push { cls := Value.type "list", data := Data.seq (L1.map fun q => Value.ref q.1).toArray }).get? s1.heap.objs.size = some (PyProof.Rows.seqObj "list" (L1.map fun q => Value.ref q.1).toArray 0) := Heap.get?_push_size _ rfl
  refine wpAny_bind (wpAny_holding ?_)
  have each : ∀ M : List (Addr × List K), (∀ q ∈ M, q ∈ L) → W.EachIs (fun v (q : Addr × List K) => v = .ref q.1 ∧ q ∈ L) (M.map fun q => Value.ref q.1) M := by
    intro M
    induction M with
    | nil => intro _; exact .nil
    | cons q M ih => intro h; exact .cons ⟨rfl, h q List.mem_cons_self⟩ (ih fun r hr => h r (List.mem_cons_of_mem _ hr))
  have ea := each L1 fun q hq => p1.mem_iff.mp hq
  have pme : (L1.map fun p => enc p.2).Perm (L.map fun p => enc p.2) := p1.map _
  have er : W.EachIs (fun v (q : Addr × List K) => ∃ as, Reads (s1.heap.push { cls := Value.type "list", data := Data.seq (L1.map fun q => Value.ref q.1).toArray }) v (enc q.2) as ∧ s1.heap.objs.size ∉ as) (L1.map fun q => Value.ref q.1) L1 := ea.mono fun v q h => by
    obtain ⟨e, hq⟩ := h
    subst e
    exact ⟨[], rd _ _ _ (isH_at (R.tup q hq) fun u e => Heap.get?_push_of_some _ (k1 _ u e)), List.not_mem_nil⟩
  have hal1 : W.AllAlike (L1.map fun p => enc p.2) := fun x hx y hy => hal x (pme.mem_iff.mp hx) y (pme.mem_iff.mp hy)
  have hk1 : W.Sortable (L1.map fun p => enc p.2) := hk.imp (fun z d hd => z d (pme.mem_iff.mp hd)) fun z d hd => z d (pme.mem_iff.mp hd)
  refine W.list_sort_data (enc := fun q : Addr × List K => enc q.2) (R := fun v (q : Addr × List K) => v = .ref q.1 ∧ q ∈ L) (bs := L1) hoL ea er hal1 hk1 (by rw [List.length_map] at small; exact small) (fun b hb => ?_) fun out ho eo => ?_
  · have := hu b (p1.mem_iff.mp hb)
    show A.in1.units + 1 + (enc b.2).depth < cLine
    show A.units + 1 + 1 + _ < cLine
    omega
  · obtain ⟨c, hc⟩ := sortedHeap_at (out := out.toArray) hoL
    refine wpAny_pure ⟨_, rfl, hQ _ s1.heap.objs.size out c L1 (fun b u e => ?_) g1 o1 hz hc p1 eo⟩
    have q := k1 b u e
    have hlt := Heap.lt_size q
    show (sortedHeap _ s1.heap.objs.size (L1.map fun q => Value.ref q.1) out.toArray).get? b = some u
    rw [sortedHeap_old (Nat.ne_of_lt hlt) (by rw [size_push']; exact Nat.lt_succ_of_lt hlt)]
    exact Heap.get?_push_of_some _ q
end
end Zk
end

section
set_option maxRecDepth 100000
set_option maxHeartbeats 4000000
/-! set(tuple of (text, int)) and its items in order. -/
namespace Zk
open PySem PySem.Spec PyProof.Rows L2
abbrev Nd := Str × Int
def kN (p : Nd) : List Key := [.inr p.1, .inl p.2]
def unN : List Key → Nd
  | [.inr s, .inl i] => (s, i)
  | _ => ("", 0)
theorem un_k (p : Nd) : unN (kN p) = p := rfl
theorem k_inj {p q : Nd} (h : kN p = kN q) : p = q := by rw [← un_k p, h, un_k]
def encK : Key → PyData
  | .inl i => .int i
  | .inr s => .str s
def encN (k : List Key) : PyData := .tuple (k.map encK)
def kL (L : List (Addr × Nd)) : List (Addr × List Key) := L.map fun p => (p.1, kN p.2)
theorem kL_map (L : List (Addr × Nd)) : (kL L).map (·.2) = (L.map (·.2)).map kN := by unfold kL; rw [List.map_map, List.map_map]; rfl
theorem kL_back {ks : List (Addr × Nd)} : ∀ {L : List (Addr × List Key)}, (∀ p ∈ L, p ∈ kL ks) → ∃ L0, L = kL L0 ∧ ∀ p ∈ L0, p ∈ ks
  | [], _ => ⟨[], rfl, fun _ h => by cases h⟩
  | p :: r, h => by
    obtain ⟨L0, e, h0⟩ := kL_back (L := r) fun q hq => h q (List.mem_cons_of_mem _ hq)
    obtain ⟨q, hq, eq⟩ := List.mem_map.mp (h p List.mem_cons_self)
    exact ⟨q :: L0, by rw [e, ← eq]; rfl, fun x hx => by
      rcases List.mem_cons.mp hx with z | z
      · rw [z]; exact hq
      · exact h0 x z⟩
theorem hb_mix (P : Program) (w : World) : HB (mixKind P w) := fun x v h => by
  rcases keyIs_shape (show keyIs x v = true from h) with ⟨i, t, rfl, rfl⟩ | ⟨z, t, rfl, rfl⟩
  · exact ⟨true, rfl⟩
  · exact ⟨false, rfl⟩
section
variable {P : Program} {w : World}
theorem reads_items {h : Heap} : ∀ {k : List Key} {us : List Value}, PySem.ItemsAre (mixKind P w) k us → ReadsAll h us (k.map encK) []
  | _, _, .nil => .nil
  | _, _, .cons (k := k) (v := v) h1 t => by
    have r := reads_items (h := h) t
    rcases keyIs_shape (show keyIs k v = true from h1) with ⟨i, tk, rfl, rfl⟩ | ⟨z, tk, rfl, rfl⟩
    · exact ReadsAll.cons (.int i tk) r
    · exact ReadsAll.cons (.str z tk) r
theorem reads_key {h : Heap} {k : List Key} {b : Addr} (x : IsH (mixKind P w) h k b) : Reads h (.ref b) (encN k) [] := by
  obtain ⟨o, its, n, ho, hc, hd, hi⟩ := x
  exact .tuple ho hc hd (reads_items hi)
def SetN0 (P : Program) (w : World) (h : Heap) (a : Addr) (L : List (Addr × Nd)) : Prop :=
  ∃ (es : Array (Int × Value)) (ep : Nat) (t : SetTable), (∃ o, h.get? a = some o ∧ o.ExactSet ∧ o.data = .set es ep t) ∧ es.toList = rowsH (knd := mixKind P w) (kL L) ∧ TabOk t ((kL L).map fun p => hsh (mixKind P w) p.2) ∧ ((kL L).map (·.2)).Nodup ∧
    (w.params.followText "set-order" = true ∨ t.led = true) ∧ (kL L).length * 5 < t.mask * 3 ∧ (kL L).length < 64
def SetNO (P : Program) (w : World) (a : Addr) (L : List (Addr × Nd)) : HO := .ext fun h => SetN0 P w h a L
theorem SetH.n0 {h : Heap} {a : Addr} {L : List (Addr × Nd)} {es : Array (Int × Value)} {ep : Nat} {t : SetTable} (R : SetH (mixKind P w) h a (kL L) es ep t) : SetN0 P w h a L :=
  ⟨es, ep, t, R.ob, R.rows, R.tab, R.nd, R.led, R.room, R.few⟩
theorem SetN0.full {h : Heap} {a : Addr} {L : List (Addr × Nd)} (R : SetN0 P w h a L) (ht : ∀ p ∈ L, IsH (mixKind P w) h (kN p.2) p.1) : ∃ es ep t, SetH (mixKind P w) h a (kL L) es ep t := by
  obtain ⟨es, ep, t, h1, h2, h3, h4, h6, h7, h8⟩ := R
  exact ⟨es, ep, t, h1, h2, h3, h4, (fun p hp => by
    obtain ⟨q, hq, rfl⟩ := List.mem_map.mp hp
    exact ht q hq), h6, h7, h8⟩
theorem setNO_new {H : Hp} {h : Heap} {a : Addr} {L : List (Addr × Nd)} (R : SetN0 P w h a L) : ObjOk P w H h a (SetNO P w a L) := by
  have ⟨es, ep, t, ⟨o, ho, r⟩, q⟩ := id R
  refine ⟨R, ⟨o, ho⟩, fun h1 h2 p k => ?_⟩
  have ⟨es', ep', t', ⟨o', ho', r'⟩, q'⟩ := (show SetN0 P w h1 a L from p)
  exact ⟨es', ep', t', ⟨o', k o' ho', r'⟩, q'⟩
end
/-! order -/
def leN (p q : Nd) : Bool := !W.dataLt (encN (kN q)) (encN (kN p))
section
variable {X : Cx} {P : Program} {w : World} {k : Nat}
def ndV (p : Nd) : List V := [.str p.1, .int p.2]
theorem Inv.isN {K : PySem.W.Frag} (hK : X.K = K) {pins : List (Addr × Obj)} {σ : L2.St} {H : Hp} {s : Shared} {b : Addr} {p : Nd} (I : L2.Inv X pins σ H s) (h : SqT K H b (ndV p)) : IsH (mixKind X.prog X.w) s.heap (kN p) b := by
  subst hK
  obtain ⟨its, r, ⟨o, ho, hc, n, hd⟩, _⟩ := I.tuple h
  refine ⟨o, its.toArray, n, ho, hc, hd, ?_⟩
  cases r with
  | cons r1 t =>
    cases t with
    | cons r2 t =>
      cases t
      obtain ⟨t1, rfl⟩ := r1
      obtain ⟨t2, rfl⟩ := r2
      exact .cons (keyIs_str _ t1) (.cons (keyIs_int _ t2) .nil)
/-- set(t), t a tuple of (text, int) -/
def rSetN (K : PySem.W.Frag) (P : Program) (w : World) : List V → Hp → VK → Prop := fun xs H Q => ∃ (l : Addr) (ks : List (Addr × Nd)), xs = [V.ref l] ∧ SqT K H l (ks.map fun p => V.ref p.1) ∧ (∀ p ∈ ks, SqT K H p.1 (ndV p.2)) ∧ ks.length < 64 ∧
  ∀ a L, H a = none → (∀ p ∈ L, p ∈ ks) → (∀ p ∈ ks, p.2 ∈ L.map (·.2)) → Q (.ref a) (upd H a (SetNO P w a L))
theorem refs_vals : ∀ {ks : List (Addr × Nd)} {us : List Value}, Vals (ks.map fun p => V.ref p.1) us → us = (kL ks).map fun p => Value.ref p.1
  | [], _, .nil => rfl
  | p :: ks, _, .cons r t => by
    cases r
    rw [refs_vals t] <;> rfl
theorem cr_setN {K : PySem.W.Frag} (hK : X.K = K) (hP : X.prog = P) (hw : X.w = w) (hc : X.calm = true) (hr : Room k X.A) : CallR X (.type "set") (rSetN K P w) := by
  subst hP hw
  intro pins s σ H xs us Q I r h
  obtain ⟨l, ks, rfl, hl, hk, hf, q⟩ := h
  rw [Vals.ref1 r]
  have un := hr.un
  obtain ⟨its, rv, pl, hz⟩ := I.tuple (by rw [hK]; exact hl)
  have hn : H s.heap.objs.size = none := I.hok.fresh (Nat.le_refl _)
  refine set_of_tups (knd := mixKind X.prog X.w) (hb_mix _ _) (kL ks) (I.ok.hd hc) pl (by simpa using refs_vals rv) (fun p hp => ?_) (by unfold kL; rw [List.length_map]; exact hf) (by omega) fun h' tk L es ep t R g kk => ?_
  · obtain ⟨p, hp2, rfl⟩ := List.mem_map.mp hp
    exact Inv.isN hK I (hk p hp2)
  obtain ⟨L, rfl, hL⟩ := kL_back fun p hp => List.mem_of_mem_take (g.sub p hp)
  refine ⟨.ref s.heap.objs.size, upd H s.heap.objs.size (SetNO X.prog X.w s.heap.objs.size L), I.laid (t' := tk) kk (Nat.le_refl _) (setNO_new R.n0), rfl, q _ L hn hL fun p hp => ?_⟩
  have := g.all (p.1, kN p.2) (by rw [List.take_length]; exact List.mem_map.mpr ⟨p, hp, rfl⟩)
  rw [kL_map] at this
  obtain ⟨z, hz, e⟩ := List.mem_map.mp this
  rw [← k_inj e]; exact hz
/-- sorted(set) -/
def rSortedN (K : PySem.W.Frag) (P : Program) (w : World) : List V → Hp → VK → Prop := fun vs H Q => ∃ (a : Addr) (L : List (Addr × Nd)), vs = [V.ref a] ∧ H a = some (SetNO P w a L) ∧ (∀ p ∈ L, SqT K H p.1 (ndV p.2)) ∧
  ∀ (L1 : List (Addr × Nd)) (p : Addr), L1.Perm L → (L1.map (·.2)).Nodup → H p = none → Q (.ref p) (upd H p (.lst ((L1.mergeSort fun x y => leN x.2 y.2).map fun q => V.ref q.1)))
theorem sort_kL (L : List (Addr × Nd)) : (kL L).mergeSort (W.dataLe false fun q : Addr × List Key => encN q.2) = kL (L.mergeSort fun x y => leN x.2 y.2) := by
  unfold kL
  symm
  exact List.map_mergeSort fun a _ b _ => rfl
theorem each_vals : ∀ {out : List Value} {L : List (Addr × Nd)} {F : Addr × List Key → Prop}, W.EachIs (fun v (q : Addr × List Key) => v = .ref q.1 ∧ F q) out (kL L) → Vals (L.map fun q => V.ref q.1) out
  | out, [], _, h => by cases h; exact .nil
  | out, p :: r, _, h => by
    cases h with
    | cons h1 t => exact .cons (by rw [h1.1]; rfl) (each_vals t)
theorem cr_sortedN {K : PySem.W.Frag} (hK : X.K = K) (hP : X.prog = P) (hw : X.w = w) (hc : X.calm = true) (hr : Room k X.A) : CallR X (.builtin "sorted") (rSortedN K P w) := by
  subst hP hw
  intro pins s σ H vs us Q I r h
  obtain ⟨a, L, rfl, ha, hk, q⟩ := h
  have R0 : SetN0 X.prog X.w s.heap a L := (I.hok a (SetNO X.prog X.w a L) ha).1
  obtain ⟨es, ep, t, R⟩ := R0.full fun p hp => Inv.isN hK I (hk p hp)
  rw [Vals.ref1 r]
  have un := hr.un
  have mem : ∀ d ∈ (kL L).map (fun p => encN p.2), ∃ p : Nd, d = encN (kN p) := fun d hd => by
    obtain ⟨x, hx, rfl⟩ := List.mem_map.mp hd
    obtain ⟨y, _, rfl⟩ := List.mem_map.mp hx
    exact ⟨y.2, rfl⟩
  refine sorted_setH R encN (I.ok.hd hc) (fun h k b x => reads_key x) (fun x hx y hy => ?_) (.inl fun d hd => ?_) (fun p hp => ?_) fun s' p out c L1 kk g o hp hg pm ho => ?_
  · obtain ⟨p, rfl⟩ := mem x hx
    obtain ⟨q, rfl⟩ := mem y hy
    rfl
  · obtain ⟨p, rfl⟩ := mem d hd
    exact ⟨_, _, rfl⟩
  · obtain ⟨y, _, rfl⟩ := List.mem_map.mp hp
    have : (encN (kN y.2)).depth ≤ 3 := by simp [encN, kN, encK, PyData.depth, PyData.depthAll]
    show X.A.units + 2 + (encN (kN y.2)).depth < cLine
    omega
  · obtain ⟨L1, rfl, hL1⟩ := kL_back (ks := L) (L := L1) fun x hx => pm.mem_iff.mp hx
    have p0 : L1.Perm L := by
      have := pm.map fun x : Addr × List Key => (x.1, unN x.2)
      unfold kL at this
      rw [List.map_map, List.map_map] at this
      have e : ∀ l : List (Addr × Nd), l.map ((fun x : Addr × List Key => (x.1, unN x.2)) ∘ fun p => (p.1, kN p.2)) = l := fun l => by
        have : ((fun x : Addr × List Key => (x.1, unN x.2)) ∘ fun p : Addr × Nd => (p.1, kN p.2)) = id := by funext x; rfl
        rw [this, List.map_id]
      rw [e, e] at this
      exact this
    rw [sort_kL] at ho
    have hv := each_vals ho
    have hn := I.hok.fresh hp
    have few := R.few
    have lk : (kL L).length = L.length := by unfold kL; rw [List.length_map]
    have hlen : ((L1.mergeSort fun x y => leN x.2 y.2).map fun q => V.ref q.1).length ≤ sizeLine := by
      rw [List.length_map, List.length_mergeSort, p0.length_eq, sizeLine_eq]; omega
    have bare : AllBare s'.gens := by rw [g]; exact I.bare
    have nd : (L1.map (·.2)).Nodup := by
      have h1 := R.nd
      rw [kL_map] at h1
      have h2 : (L.map (·.2)).Nodup := (List.pairwise_map.mp h1).imp fun z e => z (by rw [e])
      exact (p0.map (·.2)).nodup_iff.mpr h2
    have J : L2.Inv X pins σ (upd H p (.lst ((L1.mergeSort fun x y => leN x.2 y.2).map fun q => V.ref q.1))) { heap := s'.heap, gens := s'.gens, drawn := s'.drawn, toks := s'.toks, os := s.os } :=
      Inv.call (ch := []) I (Un.laid kk hp hn) (I.hok.laid kk hp (show ObjOk X.prog X.w _ s'.heap p (.lst _) from ⟨hlen, out, c, hv, hg⟩)) bare fun x z => by cases z
    obtain ⟨h', g', d', t', o'⟩ := s'
    simp only at g o
    subst o
    exact ⟨.ref p, _, J, rfl, q L1 p p0 nd hn⟩
end
end Zk
end

section
set_option maxRecDepth 100000
set_option maxHeartbeats 4000000
/-! Readings over data: sorted(set(tuple of (text, int))). -/
namespace Ab
open PySem PySem.Spec PyProof.Rows L2 Gd
abbrev nodeE (p : Str × Int) : PyData := .tuple [.str p.1, .int p.2]
def nLt (p q : Str × Int) : Prop := sLt p.1 q.1 ∨ (p.1 = q.1 ∧ p.2 < q.2)
instance : DecidableRel nLt := fun p q => by unfold nLt sLt; exact inferInstance
abbrev AscN (ns : List (Str × Int)) : Prop := ns.Pairwise nLt
theorem nLt_data (p q : Str × Int) : W.dataLt (nodeE p) (nodeE q) = decide (nLt p q) := by
  obtain ⟨a, i⟩ := p
  obtain ⟨b, j⟩ := q
  rw [W.dataLt_pair (by rfl) (by rfl), W.dataLt_str, W.dataLt_int, eqv_str, Bool.eq_iff_iff]
  rw [decide_eq_true_eq (p := nLt (a, i) (b, j))]
  have ei : PyData.eqv (.int i) (.int j) = decide (i = j) := by simp only [PyData.eqv]; rfl
  show _ ↔ sLt a b ∨ (a = b ∧ i < j)
  rw [ei]
  by_cases h : a = b
  · subst h
    have n : ¬ sLt a a := fun z => z.ne rfl
    by_cases h2 : i = j
    · subst h2; simp [n]
    · simp [n, h2]
  · simp [h, sLt]
theorem nLt.ne {p q : Str × Int} (h : nLt p q) : p ≠ q := fun e => by
  subst e
  rcases h with z | z
  · exact z.ne rfl
  · exact absurd z.2 (Int.lt_irrefl _)
theorem nLt.tr {p q r : Str × Int} (h : nLt p q) (g : nLt q r) : nLt p r := by
  rcases h with z | z <;> rcases g with y | y
  · exact .inl (z.tr y)
  · exact .inl (y.1 ▸ z)
  · exact .inl (z.1.symm ▸ y)
  · exact .inr ⟨z.1.trans y.1, Int.lt_trans z.2 y.2⟩
theorem nLt.tot {p q : Str × Int} (h : ¬ nLt p q) (n : p ≠ q) : nLt q p := by
  by_cases e : p.1 = q.1
  · refine .inr ⟨e.symm, ?_⟩
    have h2 : ¬ p.2 < q.2 := fun z => h (.inr ⟨e, z⟩)
    have h3 : p.2 ≠ q.2 := fun z => n (Prod.ext e z)
    omega
  · exact .inl (sLt.tot (fun z => h (.inl z)) e)
theorem AscN.nodup {ns : List (Str × Int)} (h : AscN ns) : ns.Nodup := h.imp fun z => z.ne
theorem leN_eq (p q : Str × Int) : Zk.leN p q = !decide (nLt q p) := by
  show (!W.dataLt (nodeE q) (nodeE p)) = _
  rw [nLt_data]
/-- two ascending lists of the same items are one -/
theorem asc_one : ∀ {xs ys : List (Str × Int)}, AscN xs → AscN ys → (∀ k, k ∈ xs ↔ k ∈ ys) → xs = ys
  | [], [], _, _, _ => rfl
  | [], y :: t, _, _, h => absurd ((h y).mpr List.mem_cons_self) List.not_mem_nil
  | x :: r, [], _, _, h => absurd ((h x).mp List.mem_cons_self) List.not_mem_nil
  | x :: r, y :: t, hx, hy, h => by
    have x1 := List.pairwise_cons.mp hx
    have y1 := List.pairwise_cons.mp hy
    have e : x = y := by
      rcases List.mem_cons.mp ((h x).mp List.mem_cons_self) with z | z
      · exact z
      · rcases List.mem_cons.mp ((h y).mpr List.mem_cons_self) with v | v
        · exact v.symm
        · exact absurd rfl ((y1.1 x z).tr (x1.1 y v)).ne
    subst e
    rw [asc_one x1.2 y1.2 fun k => ?_]
    constructor
    · intro hk
      rcases List.mem_cons.mp ((h k).mp (List.mem_cons_of_mem _ hk)) with z | z
      · exact absurd z.symm (x1.1 k hk).ne
      · exact z
    · intro hk
      rcases List.mem_cons.mp ((h k).mpr (List.mem_cons_of_mem _ hk)) with z | z
      · exact absurd z.symm (y1.1 k hk).ne
      · exact z
theorem asc_sortN {L : List (Addr × (Str × Int))} (nd : (L.map (·.2)).Nodup) : AscN ((L.mergeSort fun x y => Zk.leN x.2 y.2).map (·.2)) := by
  have h := List.pairwise_mergeSort (le := fun x y : Addr × (Str × Int) => Zk.leN x.2 y.2) (fun a b c h1 h2 => by
    simp only [leN_eq, Bool.not_eq_true', decide_eq_false_iff_not] at *
    intro h
    by_cases e : a.2 = b.2
    · rw [e] at h; exact h2 h
    · exact h2 (h.tr (nLt.tot (p := b.2) (q := a.2) h1 fun z => e z.symm))) (fun a b => by
    simp only [leN_eq, Bool.or_eq_true, Bool.not_eq_true', decide_eq_false_iff_not]
    by_cases e : nLt b.2 a.2
    · exact .inr fun z => (e.tr z).ne rfl
    · exact .inl e) L
  have n2 : ((L.mergeSort fun x y => Zk.leN x.2 y.2).map (·.2)).Nodup := ((List.mergeSort_perm _ _).map _).nodup_iff.mpr nd
  refine List.pairwise_map.mpr ?_
  refine (h.and (List.pairwise_map.mp n2)).imp fun {a b} z => ?_
  have h1 := z.1
  simp only [leN_eq, Bool.not_eq_true', decide_eq_false_iff_not] at h1
  exact nLt.tot h1 fun e => z.2 e.symm
section
variable {X : Cx} {B : Bk} {e o : Expr} {te to : TE} {we wo : WE} {tl : TA} {wl : WL} {K : PySem.W.Frag} {PP : Program} {w : World} {p p2 pos pos2 apos : Pos} {k : Nat}
/-- the addresses of a tuple's items -/
theorem nodes_of {M : List Addr} {H : Hp} : ∀ {ns : List (Str × Int)} {vs : List V}, Reps M H vs (ns.map nodeE) → ∃ ks : List (Addr × (Str × Int)), vs = ks.map (fun p => V.ref p.1) ∧ ks.map (·.2) = ns ∧ ∀ p ∈ ks, p.1 ∉ M ∧ H p.1 = some (.tup (Zk.ndV p.2))
  | [], vs, h => by cases h; exact ⟨[], rfl, rfl, fun _ h => by cases h⟩
  | n :: r, vs, h => by
    rw [List.map_cons] at h
    cases h with
    | cons h1 t =>
      obtain ⟨ks, rfl, e2, h3⟩ := nodes_of t
      cases h1 with
      | tup na ea z =>
        cases z with
        | cons z1 z =>
          cases z with
          | cons z2 z =>
            cases z
            cases z1
            cases z2
            exact ⟨(_, n) :: ks, rfl, by rw [List.map_cons, e2], fun p hp => by
              rcases List.mem_cons.mp hp with e | e
              · rw [e]; exact ⟨na, ea⟩
              · exact h3 p e⟩
theorem reps_nodes {M : List Addr} {H : Hp} : ∀ {ks : List (Addr × (Str × Int))}, (∀ p ∈ ks, p.1 ∉ M ∧ H p.1 = some (.tup (Zk.ndV p.2))) → Reps M H (ks.map fun p => V.ref p.1) ((ks.map (·.2)).map nodeE)
  | [], _ => .nil
  | p :: r, h => .cons (.tup (h p List.mem_cons_self).1 (h p List.mem_cons_self).2 (.cons (.str _) (.cons (.int _) .nil))) (reps_nodes fun q hq => h q (List.mem_cons_of_mem _ hq))
/-- the nodes of a tuple, each once, ascending -/
def gSortSetN : GL := fun ds m P => match ds with
  | [.im (.tuple xs)] => ∃ ns : List (Str × Int), xs = ns.map nodeE ∧ ns.length < 64 ∧ ∀ ms : List (Str × Int), AscN ms → (∀ k, k ∈ ms ↔ k ∈ ns) → P (.wl (ms.map nodeE)) m
  | _ => False
theorem ae_sortSetN (hK : X.K = K) (hP : X.prog = PP) (hw : X.w = w) (hc : X.calm = true) (hr : Room k X.A) (hg : Gl X "sorted") (hm : X.mg "sorted" = none) (hg2 : Gl X "set") (hm2 : X.mg "set" = none) (ha : AL X B [e] tl wl)
    (he2 : starEach [e] X.env = (false, eval e X.env) :: starEach [] X.env := by rfl) (hpl2 : (backTo pos2 (starEach [] X.env)).any (·.1) = false := by rfl)
    (he : starEach [.Call (.Name "set" p2) [e] [] pos2] X.env = (false, eval (.Call (.Name "set" p2) [e] [] pos2) X.env) :: starEach [] X.env := by rfl) (hpl : (backTo pos (starEach [] X.env)).any (·.1) = false := by rfl) :
    AE X B (.Call (.Name "sorted" p) [.Call (.Name "set" p2) [e] [] pos2] [] pos) (tCB (Zk.rSortedN K PP w) (tCons (tCB (Zk.rSetN K PP w) tl) tNil)) (wCB gSortSetN wl) :=
  ⟨pe_callB (Zk.cr_sortedN hK hP hw hc hr) hg hm (by decide +kernel) (pa_cons (pe_callTy (Zk.cr_setN hK hP hw hc hr) hg2 hm2 (by decide +kernel) ha.pa (by decide) (by decide) he2 hpl2) pa_nil) (by decide) (by decide) he hpl,
   fun N M H σ ρ m P Q x0 S R hw' q => ha.la N M H σ ρ m _ _ x0 S R hw' fun vs ds M1 H1 m1 x1 R1 r1 h1 => by
    unfold gSortSetN at h1
    split at h1
    · obtain ⟨v, rfl, rv⟩ := val1 r1
      obtain ⟨ns, rfl, few, h1⟩ := h1
      cases rv with
      | tup na ea z =>
        obtain ⟨ks, rfl, rfl, hks⟩ := nodes_of z
        rw [List.length_map] at few
        refine ⟨_, ks, rfl, .inl (.inl ea), fun p hp => .inl (.inl (hks p hp).2), few, fun p L hp hL hall => ⟨p, L, rfl, upd_same, fun x hx => .inl (.inl ?_), fun L1 p2 pm nd hp2 => ?_⟩⟩
        · exact Kp.new (M := []) hp _ _ List.not_mem_nil (hks x (hL x hx)).2
        have R2 := R1.alloc (o := Zk.SetNO PP w p L) hp
        have at2 : ∀ x ∈ L1.mergeSort (fun x y => Zk.leN x.2 y.2), x.1 ∉ M1 ++ N ∧ upd H1 p (Zk.SetNO PP w p L) x.1 = some (.tup (Zk.ndV x.2)) := fun x hx => by
          have h0 := hL x (pm.mem_iff.mp ((List.mergeSort_perm _ _).mem_iff.mp hx))
          exact ⟨(hks x h0).1, Kp.new (M := []) hp _ _ List.not_mem_nil (hks x h0).2⟩
        obtain ⟨x', R', r'⟩ := new_wl R2 hp2 (reps_nodes at2)
        refine q _ _ M1 _ m1 (x1.trans ((Ext.alloc hp).trans x')) R' r' (h1 _ (asc_sortN nd) fun k => ?_)
        rw [((List.mergeSort_perm _ _).map _).mem_iff, (pm.map (·.2)).mem_iff]
        constructor
        · intro hk
          obtain ⟨x, hx, e⟩ := List.mem_map.mp hk
          exact List.mem_map.mpr ⟨x, hL x hx, e⟩
        · intro hk
          obtain ⟨x, hx, e⟩ := List.mem_map.mp hk
          rw [← e]; exact hall x hx
    · exact h1.elim⟩
end
end Ab
end

section
set_option maxRecDepth 100000
set_option maxHeartbeats 4000000
/-! enumerate(tuple). -/
namespace Ab
open PySem PySem.Spec PyProof.Rows L2 Gd
set_option maxHeartbeats 1000000 in
theorem meets_enumerate_newT (l : Addr) (items : Array Value) (n : Nat) (d : Option Addr) (sl : Array (Option Value)) :
    Meets (Builtin.«enumerate.__new__» ⟨[.type "enumerate", .ref l], []⟩) (fun _ R s => s.heap.get? l = some { cls := .type "tuple", dict := d, data := .seq items n, slots := sl } ∧
      R (.ok (.ret (.ref (s.heap.push { cls := .type "tuple_iterator", data := .fields #[.ref l, .int 0 0] }).objs.size)))
        { s with heap := (s.heap.push { cls := .type "tuple_iterator", data := .fields #[.ref l, .int 0 0] }).push { cls := .type "enumerate", data := .fields #[.none, .bool false, .ref s.heap.objs.size, rawInt 0, .none, .none] } }) :=
  .of_wp fun prog w A R s h => by
    obtain ⟨hp, g, d, tk, os⟩ := s
    obtain ⟨hl, h⟩ := h
    have hL : hp.IsTuple l items := ⟨_, hl, rfl, n, rfl⟩
    have hsub := sub_enumerate
    wp_walk
    refine wpAny_stack_any fun st => wpAny_pure ?_
    split
    · rename_i c _ _ _ _ _
      cases (c == Value.type "enumerate")
      · wp_walk using wpAny_loadPart' hl, wpAny_pyIter_tuple hL
        exact ⟨_, rfl, h⟩
      · wp_walk using wpAny_loadPart' hl, wpAny_pyIter_tuple hL
        exact ⟨_, rfl, h⟩
    · wp_walk using wpAny_loadPart' hl, wpAny_pyIter_tuple hL
      exact ⟨_, rfl, h⟩
section
variable {prog : Program} {w : World} {A : Around} {E : Value → Shared → Prop} {s : Shared}
theorem call_enumerate_tuple {l : Addr} {items : Array Value} {Q : Value → Shared → Prop} (hL : s.heap.IsTuple l items)
    (h : ∀ h', IsEnum h' (s.heap.objs.size + 1) s.heap.objs.size 0 .none → h'.IsTupleIter s.heap.objs.size l 0 → h'.objs.size = s.heap.objs.size + 2 →
      (∀ b o, s.heap.get? b = some o → h'.get? b = some o) → Q (.ref (s.heap.objs.size + 1)) { s with heap := h' }) :
    wpAny (model prog w) A (call (.type "enumerate") [.ref l]) Q E s := by
  obtain ⟨⟨c, dct, dt, sl⟩, hl, hc, n, hd⟩ := hL
  replace hc : c = .type "tuple" := hc
  replace hd : dt = .seq items n := hd
  subst hc hd
  refine callType_new F.called_enumerate (by decide) (F.typeCall_enumerate_1 _) (F.newCall_enumerate_1 _) (fun obj => F.args_object_init_2 obj _) F.entry_enumerate_new
    (meets_enumerate_newT l items n dct sl) ⟨hl, ?_⟩
  have hz : (s.heap.push { cls := .type "tuple_iterator", data := .fields #[.ref l, .int 0 0] }).objs.size = s.heap.objs.size + 1 := Heap.size_push ..
  show _ ∧ _
  rw [hz]
  have he : IsEnum ((s.heap.push { cls := .type "tuple_iterator", data := .fields #[.ref l, .int 0 0] }).push
      { cls := .type "enumerate", data := .fields #[.none, .bool false, .ref s.heap.objs.size, rawInt 0, .none, .none] }) (s.heap.objs.size + 1) s.heap.objs.size 0 .none := by
    have := Heap.get?_push_size (s.heap.push { cls := .type "tuple_iterator", data := .fields #[.ref l, .int 0 0] })
      (o := { cls := .type "enumerate", data := .fields #[.none, .bool false, .ref s.heap.objs.size, rawInt 0, .none, .none] }) rfl
    rw [hz] at this; exact this
  refine ⟨⟨_, he, rfl⟩, h _ he ⟨_, Heap.get?_push_of_some _ (Heap.get?_push_size _ rfl), rfl, rfl⟩ (by rw [Heap.size_push, hz]) fun b o x => Heap.get?_push_of_some _ (Heap.get?_push_of_some _ x)⟩
end
/-- the tuple at a, each item in a new pair -/
def IteT (K : PySem.W.Frag) (a : Addr) : It :=
  ⟨fun i H => ∃ (xs : List V) (x : V), SqT K H a xs ∧ xs[i]? = some x, fun i H v H' => ∃ T x, v = .ref T ∧ H T = none ∧ H' = upd H T (.tup [.int (i : Nat), x]) ∧ ∀ xs, SqT K H a xs → xs[i]? = some x, fun i H => ∃ xs : List V, SqT K H a xs ∧ xs.length ≤ i⟩
theorem turn_enumT {P : Program} {w : World} {K : PySem.W.Frag} {elts : List Expr} {kk : Nat} {tpos : Pos} (a e it : Addr) :
    Turn P w K (.Tuple elts kk tpos) (IteT K a) [e, it] e (fun i h => (∃ old, IsEnum h e it ((i : Nat) : Int) old) ∧ h.IsTupleIter it a i ∧ e ≠ it) where
  mem := by simp
  obj := fun i h st b hb => by
    obtain ⟨⟨old, he⟩, ⟨o, ho, hc, hd⟩, _⟩ := st
    have e' : b = e ∨ b = it := by simpa using hb
    rcases e' with z | z
    · rw [z]; exact ⟨_, he, fun v q => nomatch q⟩
    · rw [z]; exact ⟨o, ho, fun v q => by rw [hd] at q; cases q⟩
  keep := fun i h h' st k => let ⟨⟨old, he⟩, hi, hne⟩ := st; ⟨⟨old, k e (by simp) _ he⟩, hi.at fun o q => k it (by simp) o q, hne⟩
  item := by
    intro X hP hw hK hc i pins s σ H E I hf st hg
    subst hP hw hK
    obtain ⟨⟨old, he⟩, hit, hne⟩ := st
    obtain ⟨xs, x, hq, hx⟩ := hg
    obtain ⟨its, rv, p, hz⟩ := I.tuple hq
    obtain ⟨u, hu, ru⟩ := rv.get hx
    have hel : e < s.heap.objs.size := Heap.lt_size he
    have hil : it < s.heap.objs.size := by obtain ⟨_, q, _⟩ := hit; exact Heap.lt_size q
    have hea : e ≠ a := fun z => by
      subst z
      obtain ⟨o, ho, hc, _⟩ := p
      have e1 := (congrArg Obj.cls (Option.some.inj (he.symm.trans ho))).trans hc
      exact absurd (Value.type.inj e1) (by decide)
    have hia : a ≠ it := fun z => by
      subst z
      obtain ⟨o, ho, hc, _⟩ := p
      obtain ⟨o2, ho2, hc2, _⟩ := hit
      have e1 := hc.symm.trans ((congrArg Obj.cls (Option.some.inj (ho.symm.trans ho2))).trans hc2)
      exact absurd (Value.type.inj e1) (by decide)
    have D := Draws.tuple (prog := X.prog) (w := X.w) (A := X.A.in1) (I.ok.hd hc) it a hia its.toArray
    have hil2 : i < its.toArray.size := by
      have := (List.getElem?_eq_some_iff.mp hu).1
      simpa using this
    refine wpAny_pyNext_enum_itemD D he ⟨hit, p⟩ hil2 hne (by simp [hne, hea]) fun v h' tk hv ho hit' hT hsz hk => ?_
    have hv : v = u := by
      have : its[i]? = some v := by simpa using hv
      rw [hu] at this; exact (Option.some.inj this).symm
    subst hv
    refine ⟨_, rfl, wpAny_letOwnedTupleGo_enum (s := { s with heap := h', toks := tk + 1 }) ho fun h'' he' sb => ?_⟩
    have hT2 : h''.get? s.heap.objs.size = some { cls := .type "tuple", data := .seq #[.int i tk, v] } := (sb.2 _ (Nat.ne_of_gt hel)).trans hT
    have new : ObjOk X.prog X.w (upd H s.heap.objs.size (.tup [.int (i : Nat), x])) h'' s.heap.objs.size (.tup [.int (i : Nat), x]) :=
      ⟨by show 2 ≤ sizeLine; decide, [.int i tk, v], .cons ⟨_, rfl⟩ (.cons ru .nil), ⟨_, hT2, rfl, _, rfl⟩⟩
    have I1 : Inv X pins σ (upd H s.heap.objs.size (.tup [.int (i : Nat), x])) { s with heap := h'', toks := tk + 1 } :=
      I.turnedNew (ch := [e, it]) (fun b ob hb q => (sb.2 b (fun z => hb (by simp [z]))).trans (hk b ob (fun z => hb (by simp [z])) (fun z => hb (by simp [z])) q)) hf (Nat.le_refl _) new
    refine ⟨.ref s.heap.objs.size, _, I1, rfl, ⟨_, x, rfl, I.hok.fresh (Nat.le_refl _), rfl, fun ys hy => by rw [I.tuple_inj hy hq]; exact hx⟩, ⟨⟨v, ?_⟩, hit'.1.at fun o q => (sb.2 it (Ne.symm hne)).trans q, hne⟩, fun b hb => ?_⟩
    · have e1 : ((i + 1 : Nat) : Int) = (i : Int) + 1 := by omega
      rw [e1]; exact he'
    · have hb' : b < s.heap.objs.size := by
        have e' : b = e ∨ b = it := by simpa using hb
        rcases e' with z | z
        · rw [z]; exact hel
        · rw [z]; exact hil
      rw [upd_ne (Nat.ne_of_lt hb')]
      exact (hf b hb).1
  done := by
    intro X hP hw hK hc i pins s σ H E I hf st hg
    subst hP hw hK
    obtain ⟨⟨old, he⟩, hit, hne⟩ := st
    obtain ⟨xs, hq, hx⟩ := hg
    obtain ⟨its, rv, p, hz⟩ := I.tuple hq
    obtain ⟨f0, f1, f2, f3, f4, f5⟩ := hf it (by simp)
    have hl := rv.length
    have hT : s.TypeIs (.ref e) "enumerate" := ⟨_, he, rfl⟩
    unfold pyNext
    refine wpAny_bind (wpAny_attempt (wpAny_callSpecial?_slot (name := Str.ofString "__next__") hT F.slot_enumerate_next
      (wpAny_call_entry F.slot_enumerate_next hT F.entry_enumerate_next ?_ (F.args_enumerate_next_1 _))))
    show wpAny _ _ (field (.ref e) 2 >>= _) _ _ _
    refine wpAny_bind (wpAny_field he rfl (x := .ref it) rfl ?_)
    refine wpAny_bind ?_
    refine wpAny_nextOf_tuple_end (A := X.A.in1) (I.ok.hd hc) hit p (by simp; omega) fun h' x' he' hx' => ?_
    obtain ⟨o, ho, hc⟩ := hx'
    refine wpAny_bind (wpAny_isInstance (T := "StopIteration") (b := true) ⟨o, ho, hc⟩ isSubtype_stop ?_)
    exact wpAny_pure ⟨rfl, I.turned (t' := s.toks) (fun b o hb q => he' b o hb q) f0 f1 f3 f4 f5⟩
  self := fun A i s Q E st h => let ⟨⟨_, he⟩, _⟩ := st; wpAny_pyIter_enum he h
def iEnumT (K : PySem.W.Frag) (ta : TA) : TI := fun σ H R => ta σ H fun vs H1 => ∃ a xs, vs = [.ref a] ∧ SqT K H1 a xs ∧ R (IteT K a) H1
theorem pi_enumT {X : Cx} {e : Expr} {ta : TA} {p pos tpos : Pos} {elts : List Expr} {kk : Nat} (hg : Gl X "enumerate") (hm : X.mg "enumerate" = none) (ha : PA X [e] ta) (hs : starEach [e] X.env = [(false, eval e X.env)] := by rfl) :
    PI X (.Tuple elts kk tpos) (.Call (.Name "enumerate" p) [e] [] pos) (iEnumT X.K ta) := by
  refine ⟨fun pins s σ H R I h => ?_⟩
  refine Call_ (ld_blt I hg hm boot_enumerate (PyProof.Rows.callWith_type1 (thn (ha.run pos pins s σ H _ I h) fun us s1 ⟨vs, H1, I1, r1, q1⟩ => ?_) hs rfl))
  obtain ⟨a, xs, ex, hq, q⟩ := q1
  subst ex
  cases r1 with
  | cons r rr =>
    cases rr
    cases r
    obtain ⟨its, rv, p', hz⟩ := I1.tuple hq
    refine call_enumerate_tuple p' fun h' he hit hsz hk => wpAny_pyIter_enum he ?_
    have I2 : Inv X pins σ H1 { s1 with heap := h' } := I1.kept (t' := s1.toks) hk
    refine ⟨s1.heap.objs.size + 1, [s1.heap.objs.size + 1, s1.heap.objs.size], _, _, H1, rfl, I2, turn_enumT a (s1.heap.objs.size + 1) s1.heap.objs.size, ⟨⟨.none, he⟩, hit, Nat.succ_ne_self _⟩, fun b hb => ?_, q⟩
    have e' : b = s1.heap.objs.size + 1 ∨ b = s1.heap.objs.size := by simpa using hb
    have hle : s1.heap.objs.size ≤ b := by
      rcases e' with z | z
      · rw [z]; exact Nat.le_add_right _ _
      · rw [z]; exact Nat.le_refl _
    exact I1.fpOk hle (I1.hok.fresh hle)
section
variable {N M : List Addr} {H : Hp} {m : Store} {K : PySem.W.Frag} {a b : Addr}
theorem wk_enumT {us : List V} {xs : List PyData} (na : a ∉ M ++ N) (ha : H a = some (.tup us)) (r : Reps (M ++ N) H us xs) : Wk (IteT K a) N M H (enumF 0 xs) yes := by
  have l := r.length
  refine ⟨fun i N2 M2 H2 m2 hi e _ _ => ?_, fun N2 M2 H2 m2 e _ _ => ⟨us, .inl (.inl (e.kp a _ na ha)), by rw [enumF_len, l]; exact Nat.le_refl _⟩, fun i x d N2 M2 H2 H3 m2 hd nn e n2 R _ y => ?_⟩
  · rw [enumF_len, ← l] at hi
    exact ⟨us, us[i], .inl (.inl (e.kp a _ na ha)), by simp [hi]⟩
  · obtain ⟨T, v, rfl, hT, rfl, y2⟩ := y
    obtain ⟨z, h1, rfl⟩ := enumF_at hd
    obtain ⟨w, h2, h3⟩ := r.at' h1
    have := y2 us (.inl (.inl (e.kp a _ na ha)))
    rw [h2] at this
    cases this
    rw [Nat.zero_add]
    exact new_pair R hT (.int _) (Rep.seen e nn n2 h3)
end
section
variable {X : Cx} {B : Bk} {e e2 : Expr} {ta : TA} {wa : WL} {K : PySem.W.Frag} {p pos tpos : Pos} {elts : List Expr} {kk : Nat}
def wiEnumT (wa : WL) : WI := fun ρ m P => wa ρ m fun ds m1 => match ds with
  | [.im (.tuple xs)] => P (enumF 0 xs) yes m1
  | _ => False
theorem ai_enumT (hK : X.K = K) (hg : Gl X "enumerate") (hm : X.mg "enumerate" = none) (ha : AL X B [e] ta wa) (hs : starEach [e] X.env = [(false, eval e X.env)] := by rfl) : AI X B (.Tuple elts kk tpos) (.Call (.Name "enumerate" p) [e] [] pos) (iEnumT K ta) (wiEnumT wa) :=
  ⟨hK ▸ pi_enumT hg hm ha.pa hs, fun N M H σ ρ m P R x0 S Rl hw q => ha.la N M H σ ρ m _ _ x0 S Rl hw fun vs ds M1 H1 m1 x1 R1 r1 h1 => by
    split at h1
    · obtain ⟨v, rfl, rv⟩ := val1 r1
      cases rv with
      | tup n e z => exact ⟨_, _, rfl, .inl (.inl e), q _ _ yes M1 H1 m1 x1 R1 (wk_enumT n e z) h1⟩
    · exact h1.elim⟩
end
end Ab
end

section
set_option maxRecDepth 100000
set_option maxHeartbeats 4000000
namespace K14
open PySem PySem.Spec PyProof.Rows L2 Gd Ab
def topS (i : Nat) : Stmt := PySem.Challenge.pw_gridupgrade_k14_apart_sets_of_any_value.main.body.getD i (.Pass ⟨0, 0, 0, 0⟩)
/-- the built-ins' names are no names of the module; the constants -/
structure Bs (mg : Str → Option Value) (t0 : Tok) : Prop where
  set : mg "set" = none
  bool : mg "bool" = none
  all : mg "all" = none
  zip : mg "zip" = none
  isinstance : mg "isinstance" = none
  str : mg "str" = none
  tuple : mg "tuple" = none
  int : mg "int" = none
  len : mg "len" = none
  range : mg "range" = none
  enumerate : mg "enumerate" = none
  abs : mg "abs" = none
  sorted : mg "sorted" = none
  list : mg "list" = none
  repr : mg "repr" = none
  min : mg "min" = none
  max : mg "max" = none
  any : mg "any" = none
  dict : mg "dict" = none
  sum : mg "sum" = none
  reversed : mg "reversed" = none

theorem small {n : Nat} (h : n ≤ 100000) : n ≤ sizeLine := by rw [sizeLine_eq]; omega
end K14
end

section
set_option maxRecDepth 100000
set_option maxHeartbeats 2000000
namespace K14
open PySem PySem.Spec PyProof.Rows L2 Gd Ab
abbrev s_deck : Stmt := topS 12
theorem sc_deck : FnScope ["_law_script", "_law_k", "_law_cell", "_law_own"] ["_law_script", "_law_k"] (defScope s_deck) := ⟨rfl, rfl, rfl, by decide +kernel, rfl, by decide +kernel, by decide +kernel⟩
abbrev s_draw : Stmt := topS 13
theorem sc_draw : FnScope ["_law_deck_here", "_law_many", "_law_prime", "_law_mixed", "_law_digit"] ["_law_deck_here", "_law_many"] (defScope s_draw) := ⟨rfl, rfl, rfl, by decide +kernel, rfl, by decide +kernel, by decide +kernel⟩
section
variable {P : Program} {w : World} {K : PySem.W.Frag} {mg : Str → Option Value} {base : Heap} {t0 : Tok}
/-! ### the deck: three numbers; n: no more than so many were drawn -/
def Deck (H : Hp) (a : Addr) (n : Nat) : Prop := ∃ x y c : Int, H a = some (.lst [.int x, .int y, .int c]) ∧ 0 ≤ x ∧ 0 ≤ y ∧ y < 2305843009213693921 ∧ 0 ≤ c ∧ c ≤ n
theorem Deck.mono {H : Hp} {a : Addr} {n m : Nat} (d : Deck H a n) (h : n ≤ m) : Deck H a m := let ⟨x, y, c, e, a1, a2, a3, a4, a5⟩ := d; ⟨x, y, c, e, a1, a2, a3, a4, by omega⟩
theorem Deck.some {H : Hp} {a : Addr} {n : Nat} (d : Deck H a n) : ∃ o, H a = some o := let ⟨_, _, _, e, _⟩ := d; ⟨_, e⟩
theorem Deck.keep {H H' : Hp} {a : Addr} {n : Nat} {M : List Addr} (d : Deck H a n) (k : Kp M H H') (h : a ∉ M) : Deck H' a n := let ⟨x, y, c, e, r⟩ := d; ⟨x, y, c, k _ _ h e, r⟩
def spDeck (K : PySem.W.Frag) : Sp := fun vs H Q _ => ∃ (a : Addr) (ns : List Int) (k : Nat), vs = [.ref a, .int k] ∧ SqL K H a (ns.map V.int) ∧ k < 100 ∧ ∀ p H', Kp [] H H' → H p = none → Deck H' p 0 → Q (.ref p) H'
/-- behind the cell's choice -/
def tDeck : TS := tSeq
  (tAsg (tOp (rI CMul fun i j => .int (i * j))
      (tOp (rI (fun _ j => j ≠ 0) fun i j => .int (i.fmod j)) (tCB (fun xs H Q => ∃ i, xs = [V.int i] ∧ Q (V.int (if i < 0 then -i else i)) H) (tCons (tVar 2) tNil))
        (tOp (rI CPowW fun i j => .int (i ^ j.toNat)) (tOp (rI CPow fun i j => .int (i ^ j.toNat)) (tC (.int 10)) (tC (.int 60))) (tC (.int 5))))
      (tCB (fun xs H Q => (∃ i, xs = [V.int i] ∧ Q (V.int i) H) ∨ ∃ k, xs = [V.bl k] ∧ Q (V.int (if k = true then 1 else 0)) H)
        (tCons (tOp (rI0 fun i j => .bl (decide (j ≤ i))) (tCB (fun xs H Q => ∃ i, xs = [V.int i] ∧ Q (V.int (if i < 0 then -i else i)) H) (tCons (tVar 2) tNil)) (tOp (rI CPow fun i j => .int (i ^ j.toNat)) (tC (.int 10)) (tC (.int 18)))) tNil))) (gName 3))
  (tRet (tLstS (tCons (tVar 3) (tCons (tOp (rI (fun _ j => j ≠ 0) fun i j => .int (i.fmod j))
    (tOp (rI0 fun i j => .int (i + j)) (tOp (rI0 fun i j => .int (i + j)) (tOp (rI CMul fun i j => .int (i * j)) (tOp (rI (fun _ j => j ≠ 0) fun i j => .int (i.fmod j)) (tVar 2) (tC (.int 2305843009213693951))) (tC (.int 69857)))
      (tOp (rI CMul fun i j => .int (i * j)) (tOp (rI CMul fun i j => .int (i * j)) (tC (.int 7907)) (tVar 1)) (tVar 1))) (tC (.int 23))) (tC (.int 2305843009213693921))) (tCons (tC (.int 0)) tNil)))))
theorem deck_tail {a : Addr} {k : Nat} {H : Hp} {Q : VK} {nx : L2.St → Hp → Prop} {v3 : Option V} (hk : k < 100) (q : ∀ p H', Kp [] H H' → H p = none → Deck H' p 0 → Q (.ref p) H') (cell : Int) :
    tDeck { nx := nx, rt := Q } [some (.ref a), some (.int k), some (.int cell), v3] H := by
  have pw : CPowW (10 ^ Int.toNat 60) 5 := ⟨by decide, by decide +kernel⟩
  refine ⟨.int cell, rfl, cell, rfl, 10, 60, rfl, rfl, ⟨by decide, by decide, by decide⟩, _, 5, rfl, rfl, pw, _, _, rfl, rfl, (by show (10 ^ Int.toNat 60 : Int) ^ Int.toNat 5 ≠ 0; decide +kernel), ?_⟩
  refine ⟨.int cell, rfl, cell, rfl, 10, 18, rfl, rfl, ⟨by decide, by decide, by decide⟩, _, _, rfl, rfl, .inr ⟨_, rfl, ?_⟩⟩
  have one : ∀ b : Bool, (0 : Int) ≤ (if b = true then 1 else 0) ∧ (if b = true then 1 else 0 : Int) ≤ 1 := fun b => by cases b <;> decide
  have o := one (decide (10 ^ Int.toNat 18 ≤ (if cell < 0 then -cell else cell)))
  refine ⟨_, _, rfl, rfl, .inr ⟨by omega, by omega⟩, ?_⟩
  have n0 := Int.fmod_nonneg_of_pos (if cell < 0 then -cell else cell) (b := (10 ^ Int.toNat 60) ^ Int.toNat 5) (by decide +kernel)
  have x0 := Int.mul_nonneg n0 o.1
  have c0 := Int.fmod_nonneg_of_pos cell (b := 2305843009213693951) (by decide)
  have c1 := Int.fmod_lt_of_pos cell (b := 2305843009213693951) (by decide)
  refine ⟨_, rfl, .int cell, rfl, cell, 2305843009213693951, rfl, rfl, (by show (2305843009213693951 : Int) ≠ 0; decide), _, 69857, rfl, rfl, .inr ⟨by decide, by decide⟩, .int k, rfl, 7907, k, rfl, rfl, .inl ⟨by decide, by decide⟩, .int k, rfl, 7907 * k, k, rfl, rfl, .inl ⟨by omega, by omega⟩,
    _, _, rfl, rfl, _, 23, rfl, rfl, _, 2305843009213693921, rfl, rfl, (by show (2305843009213693921 : Int) ≠ 0; decide), (by show 3 ≤ sizeLine; decide), fun p hp _ => ?_⟩
  exact q p _ (Kp.new hp) hp ⟨_, _, _, upd_same, x0, Int.fmod_nonneg_of_pos _ (by decide), Int.fmod_lt_of_pos _ (by decide), Int.le_refl 0, Int.le_refl 0⟩
theorem ok_deck (B : Bs mg t0) (D : Defd K mg "_law_deck" s_deck) : Callee P w K mg base CX0 1 "_law_deck" ["_law_script", "_law_k"] (spDeck K) := by
  refine D.ok sc_deck (fun _ _ _ _ _ _ us hl => match us, hl with | [_, _], _ => rfl) (fun _ _ _ _ ⟨_, _, _, e, _⟩ => by rw [e]; rfl) fun f cdv A outer s H vs Q E hgu hr h => ?_
  obtain ⟨a, ns, k, rfl, hS, hk, q⟩ := h
  refine ⟨_, (pss_cons (ps_set (i := 2) sc_deck.nd rfl (.inl rfl) (pe_op op_add (pe_op op_mul pe_int (pv 1)) pe_int))
        (pss_cons (ps_if (pt_cmpR op_lt (pv 1) (pe_callB call_len (by rfl) B.len PySem.boot_len (pa_cons (pv 0) pa_nil)) (nomark _)) (pss_one (ps_set (i := 2) sc_deck.nd rfl (.inl rfl) (pe_ix (ix_listK (K := K) rfl) (pv 0) (pv 1) (fun _ _ => rfl)))) pss_nil)
        (pss_cons (ps_set (i := 3) sc_deck.nd rfl (.inl rfl) (pe_op op_mul (pe_op op_modN (pe_callB call_abs (by rfl) B.abs (by decide +kernel) (pa_cons (pv 2) pa_nil)) (pe_op op_powW (pe_op op_pow pe_int pe_int) pe_int)) (pe_callTy call_int1 (by rfl) B.int (by decide +kernel) (pa_cons (pe_cmpR op_ge (pe_callB call_abs (by rfl) B.abs (by decide +kernel) (pa_cons (pv 2) pa_nil)) (pe_op op_pow pe_int pe_int) (nomark _)) pa_nil))))
        (pss_one (ps_ret (pe_lstS (pa_cons (pv 3) (pa_cons (pe_op op_modN (pe_op op_add (pe_op op_add (pe_op op_mul (pe_op op_modN (pv 2) pe_int) pe_int) (pe_op op_mul (pe_op op_mul pe_int (pv 1)) (pv 1))) pe_int) pe_int) (pa_cons pe_int pa_nil))))))))), ?_⟩
  refine ⟨_, rfl, 17, k, rfl, rfl, .inl ⟨by decide, by decide⟩, _, 9, rfl, rfl, ?_⟩
  refine ⟨.int k, rfl, .ref a, rfl, .ref a, ns.length, rfl, .inl ⟨_, hS, by simp⟩, k, _, rfl, rfl, _, rfl, ?_⟩
  refine ite2 (fun e => ?_) (fun e => ?_)
  · have hk2 : k < ns.length := by simp at e; omega
    refine ⟨.ref a, rfl, .int k, rfl, a, _, k, .int ns[k], rfl, rfl, hS, atI_nat (by simp [hk2]), ?_⟩
    generalize ns[k] = cell
    exact deck_tail hk q cell
  · exact deck_tail hk q _
theorem prime_at {i : Int} (h0 : 0 ≤ i) (h1 : i < 5) : ∃ pr : Int, atI [V.int 2147483647, V.int 2147483629, V.int 2147483587, V.int 2147483579, V.int 2147483563] i = some (.int pr) ∧ 0 < pr ∧ pr < 2147483648 := by
  obtain ⟨j, rfl⟩ := Int.eq_ofNat_of_zero_le h0
  match j, h1 with
  | 0, _ => exact ⟨_, atI_nat (j := 0) rfl, by decide, by decide⟩
  | 1, _ => exact ⟨_, atI_nat (j := 1) rfl, by decide, by decide⟩
  | 2, _ => exact ⟨_, atI_nat (j := 2) rfl, by decide, by decide⟩
  | 3, _ => exact ⟨_, atI_nat (j := 3) rfl, by decide, by decide⟩
  | 4, _ => exact ⟨_, atI_nat (j := 4) rfl, by decide, by decide⟩
  | j + 5, h => omega
def spDraw : Sp := fun vs H Q _ => ∃ (a : Addr) (n m : Nat), vs = [.ref a, .int m] ∧ Deck H a n ∧ n < 1000000 ∧ 0 < m ∧ m < 1073741824 ∧ ∀ (r : Nat) H', r < m → Kp [a] H H' → Deck H' a (n + 1) → Q (.int r) H'
theorem ok_draw (B : Bs mg t0) (D : Defd K mg "_law_draw" s_draw) : Callee P w K mg base CX0 1 "_law_draw" ["_law_deck_here", "_law_many"] spDraw := by
  refine D.ok sc_draw (fun _ _ _ _ _ _ us hl => match us, hl with | [_, _], _ => rfl) (fun _ _ _ _ ⟨_, _, _, e, _⟩ => by rw [e]; rfl) fun f cdv A outer s H vs Q E hgu hr h => ?_
  obtain ⟨a, n, m, rfl, ⟨x, y, c, hL, hx, hy, hy2, hc, hcn⟩, hn, hm, hm2, q⟩ := h
  refine ⟨_, (pss_cons (ps_if (pt_cmpR op_gt (pe_ix (ix_listK (K := K) rfl) (pv 0) pe_int (fun _ _ => rfl)) pe_int (nomark _)) (pss_cons (ps_set (i := 4) sc_draw.nd rfl (.inl rfl) (pe_op op_modN (pe_ix (ix_listK (K := K) rfl) (pv 0) pe_int (fun _ _ => rfl)) (pv 1)))
        (pss_cons (ps_asg (pe_op op_fdivN (pe_ix (ix_listK (K := K) rfl) (pv 0) pe_int (fun _ _ => rfl)) (pv 1)) (pg_sub (pv 0) pe_int set_list))
        (pss_one (ps_ret (pv 4))))) pss_nil)
        (pss_cons (ps_asg (pe_op op_add (pe_ix (ix_listK (K := K) rfl) (pv 0) pe_int (fun _ _ => rfl)) pe_int) (pg_sub (pv 0) pe_int set_list))
        (pss_cons (ps_set (i := 2) sc_draw.nd rfl (.inl rfl) (pe_ix (ix_listK (K := K) rfl) (pe_lstS (pa_cons pe_int (pa_cons pe_int (pa_cons pe_int (pa_cons pe_int (pa_cons pe_int pa_nil)))))) (pe_op op_modN (pe_ix (ix_listK (K := K) rfl) (pv 0) pe_int (fun _ _ => rfl)) pe_int) (fun _ _ => rfl)))
        (pss_cons (ps_set (i := 3) sc_draw.nd rfl (.inl rfl) (pe_op op_modN (pe_op op_pow (pe_op op_add (pe_op op_add (pe_ix (ix_listK (K := K) rfl) (pv 0) pe_int (fun _ _ => rfl)) (pe_op op_mul (pe_op op_mul pe_int (pe_ix (ix_listK (K := K) rfl) (pv 0) pe_int (fun _ _ => rfl))) (pe_ix (ix_listK (K := K) rfl) (pv 0) pe_int (fun _ _ => rfl)))) pe_int) pe_int) (pv 2)))
        (pss_one (ps_ret (pe_op op_modN (pe_op op_fdivN (pe_op op_modN (pe_op op_mul (pv 3) (pe_op op_add (pe_op op_modN (pv 3) pe_int) (pe_op op_mul pe_int (pe_ix (ix_listK (K := K) rfl) (pv 0) pe_int (fun _ _ => rfl))))) pe_int) pe_int) (pv 1)))))))), ?_⟩
  have fin : ∀ (i : Int) H', Kp [a] H H' → Deck H' a (n + 1) → Q (.int (i.fmod m)) H' := fun i H' k d => by
    have h1 := Int.fmod_nonneg_of_pos i (b := (m : Int)) (by omega)
    have h2 := Int.fmod_lt_of_pos i (b := (m : Int)) (by omega)
    obtain ⟨r, er⟩ := Int.eq_ofNat_of_zero_le h1
    rw [er]
    exact q r H' (by omega) k d
  refine ⟨.ref a, rfl, a, _, 0, .int x, rfl, rfl, .inl (.inl hL), rfl, _, _, rfl, rfl, _, rfl, ?_⟩
  refine ite2 (fun e => ?_) (fun e => ?_)
  · have hx0 : 0 < x := of_decide_eq_true e
    refine ⟨.ref a, rfl, a, _, 0, .int x, rfl, rfl, .inl (.inl hL), rfl, .int m, rfl, x, m, rfl, rfl, by omega, ?_⟩
    refine ⟨.ref a, rfl, a, _, 0, .int x, rfl, rfl, .inl (.inl hL), rfl, .int m, rfl, x, m, rfl, rfl, ⟨by omega, by omega⟩, ?_⟩
    refine ⟨.ref a, rfl, a, _, 0, 0, rfl, rfl, hL, rfl, _, rfl, ?_⟩
    exact fin x _ (Kp.put (List.mem_singleton.mpr rfl)) ⟨x.fdiv m, y, c, upd_same, Int.fdiv_nonneg hx (by omega), hy, hy2, hc, by omega⟩
  · refine ⟨.ref a, rfl, a, _, 2, .int c, rfl, rfl, .inl (.inl hL), rfl, c, 1, rfl, rfl, .ref a, rfl, a, _, 2, 2, rfl, rfl, hL, rfl, ?_⟩
    refine ⟨by show 5 ≤ sizeLine; decide, fun p hp _ => ?_⟩
    generalize eH : upd H a _ = H1 at hp ⊢
    have k1 : Kp [a] H H1 := eH ▸ Kp.put (List.mem_singleton.mpr rfl)
    have hL1 : H1 a = some (.lst [.int x, .int y, .int (c + 1)]) := eH ▸ upd_same
    generalize eH2 : upd H1 p _ = H2
    have hP : H2 p = some (.lst [.int 2147483647, .int 2147483629, .int 2147483587, .int 2147483579, .int 2147483563]) := eH2 ▸ upd_same
    have k2 : Kp [a] H1 H2 := eH2 ▸ Kp.new hp
    have hL2 : H2 a = some (.lst [.int x, .int y, .int (c + 1)]) := by rw [← eH2, upd_ne (ne_of_none hL1 hp)]; exact hL1
    have deck : Deck H2 a (n + 1) := ⟨x, y, c + 1, hL2, hx, hy, hy2, by omega, by omega⟩
    refine ⟨.ref a, rfl, a, _, 2, .int (c + 1), rfl, rfl, .inl (.inl hL2), rfl, c + 1, 5, rfl, rfl, (by show (5 : Int) ≠ 0; decide), ?_⟩
    obtain ⟨pr, ep, hp0, hp1⟩ := prime_at (i := (c + 1).fmod 5) (Int.fmod_nonneg_of_pos _ (by decide)) (Int.fmod_lt_of_pos _ (by decide))
    refine ⟨p, _, _, _, rfl, rfl, .inl (.inl hP), ep, ?_⟩
    have sq : 0 ≤ 98317 * (c + 1) * (c + 1) ∧ 98317 * (c + 1) * (c + 1) ≤ 98317000000000000 := by
      have h0 : 0 ≤ 98317 * (c + 1) := by omega
      have h1 : 98317 * (c + 1) ≤ 98317000000 := by omega
      have h2 : 0 ≤ c + 1 := by omega
      have h3 : c + 1 ≤ 1000000 := by omega
      exact ⟨Int.mul_nonneg h0 h2, Int.le_trans (Int.mul_le_mul h1 h3 h2 (by decide)) (by decide)⟩
    refine ⟨.ref a, rfl, a, _, 1, .int y, rfl, rfl, .inl (.inl hL2), rfl, .ref a, rfl, a, _, 2, .int (c + 1), rfl, rfl, .inl (.inl hL2), rfl, 98317, c + 1, rfl, rfl, .inl ⟨by decide, by decide⟩, .ref a, rfl, a, _, 2, .int (c + 1), rfl, rfl, .inl (.inl hL2), rfl,
      98317 * (c + 1), c + 1, rfl, rfl, .inl ⟨by omega, by omega⟩, y, _, rfl, rfl, _, 43, rfl, rfl, _, 3, rfl, rfl, ⟨by decide, by decide, by omega⟩, .int pr, rfl, _, pr, rfl, rfl, by omega, ?_⟩
    dsimp only
    generalize em : ((y + 98317 * (c + 1) * (c + 1) + 43) ^ Int.toNat 3).fmod pr = mx
    have m0 : 0 ≤ mx := em ▸ Int.fmod_nonneg_of_pos _ hp0
    have m1 : mx < pr := em ▸ Int.fmod_lt_of_pos _ hp0
    refine ⟨.int mx, rfl, .int mx, rfl, mx, 10007, rfl, rfl, (by show (10007 : Int) ≠ 0; decide), .ref a, rfl, a, _, 2, .int (c + 1), rfl, rfl, .inl (.inl hL2), rfl, 83, c + 1, rfl, rfl, .inl ⟨by decide, by decide⟩, _, _, rfl, rfl, mx, _, rfl, rfl, .inl ⟨by omega, by omega⟩, _, 2305843009213693907, rfl, rfl, (by show (2305843009213693907 : Int) ≠ 0; decide), _, 89, rfl, rfl, ⟨by decide, by decide⟩, .int m, rfl, _, m, rfl, rfl, by omega, ?_⟩
    exact fin _ H2 (k1.trans k2) deck
/-! ### the deck as a list that may change -/
def dkC (n : Nat) (c : Cell) : Prop := ∃ x y z : Int, c = .lst [.im (.int x), .im (.int y), .im (.int z)] ∧ 0 ≤ x ∧ 0 ≤ y ∧ y < 2305843009213693921 ∧ 0 ≤ z ∧ z ≤ n
theorem dkC.mono {n k : Nat} (h : n ≤ k) {c : Cell} (d : dkC n c) : dkC k c := let ⟨x, y, z, e, a1, a2, a3, a4, a5⟩ := d; ⟨x, y, z, e, a1, a2, a3, a4, by omega⟩
theorem deck_of {N M : List Addr} {H : Hp} {m : Store} {i n : Nat} {c : Cell} (R : Rel N M H m) (e : m[i]? = some c) (h : dkC n c) : ∃ a, M[i]? = some a ∧ Deck H a n := by
  obtain ⟨a, ha, rc⟩ := R.of e
  obtain ⟨x, y, z, rfl, h1, h2, h3, h4, h5⟩ := h
  obtain ⟨us, hu, r⟩ := rc
  refine ⟨a, ha, x, y, z, ?_, h1, h2, h3, h4, h5⟩
  cases r with
  | cons r1 r => cases r with
    | cons r2 r => cases r with
      | cons r3 r =>
        cases r
        cases r1; cases r2; cases r3
        exact hu
/-- m with a deck at i, n draws behind it -/
abbrev Dk (m : Store) (i n : Nat) : Prop := ∃ c, m[i]? = some c ∧ dkC n c
def aDraw : ASp := fun ds m P _ => ∃ i n k : Nat, ds = [.mu i, .im (.int k)] ∧ Dk m i n ∧ n < 1000000 ∧ 0 < k ∧ k < 1073741824 ∧ ∀ (r : Nat) c, r < k → dkC (n + 1) c → P (.im (.int r)) (m.set i c)
theorem draw_a (C : Callee P w K mg base CX0 1 "_law_draw" ["_law_deck_here", "_law_many"] spDraw) : Callee P w K mg base CX0 1 "_law_draw" ["_law_deck_here", "_law_many"] (lift aDraw) := C.imp fun vs H Q E h => by
  obtain ⟨N, M, m, ds, Pd, EA, R, r, ⟨i, n, k, rfl, ⟨c, ec, hc⟩, hn, h0, h1, q⟩, _, q'⟩ := h
  obtain ⟨v, u, rfl, rv, ru⟩ := val2 r
  obtain ⟨a, ha, dk⟩ := deck_of R ec hc
  obtain ⟨_, a', ha', rfl⟩ := rv
  rw [ha] at ha'
  cases ha'
  cases ru
  refine ⟨a, n, k, rfl, dk, hn, h0, h1, fun r H' hr kp dk' => ?_⟩
  have am : a ∈ M := List.mem_of_getElem? ha
  obtain ⟨x, y, z, e', b1, b2, b3, b4, b5⟩ := dk'
  have x' : Ext M H M H' := ⟨List.prefix_refl _, kp.more fun b hb => by rw [List.mem_singleton.mp hb]; exact am, fun a h h' => absurd h h'⟩
  refine q' _ _ M H' (m.set i (.lst [.im (.int x), .im (.int y), .im (.int z)])) x' ⟨R.nd, by rw [List.length_set]; exact R.len, fun j b c' g1 g2 => ?_, fun b hb => ?_⟩ (.int _) (q r _ hr ⟨x, y, z, rfl, b1, b2, b3, b4, b5⟩)
  · by_cases z' : j = i
    · subst z'
      rw [ha] at g1
      cases g1
      rw [List.getElem?_set_self (by rw [← R.len]; exact (List.getElem?_eq_some_iff.mp ha).1)] at g2
      cases g2
      exact ⟨_, e', .cons (.int _) (.cons (.int _) (.cons (.int _) .nil))⟩
    · rw [List.getElem?_set_ne (Ne.symm z')] at g2
      refine (R.cell j b c' g1 g2).ext x' fun o ho => kp b o (fun hb => ?_) ho
      rw [List.mem_singleton.mp hb] at g1
      exact z' ((List.getElem?_inj (List.getElem?_eq_some_iff.mp g1).1 R.nd).mp (g1.trans ha.symm))
  · obtain ⟨o, ho⟩ := R.there b hb
    by_cases z' : b = a
    · exact ⟨_, by rw [z']; exact e'⟩
    · exact ⟨o, kp b o (fun h => z' (List.mem_singleton.mp h)) ho⟩
end
end K14
end

section
set_option maxRecDepth 100000
set_option maxHeartbeats 4000000
namespace K14
open PySem PySem.Spec PyProof.Rows L2 Gd Ab
abbrev s_any : Stmt := topS 14
theorem sc_any : FnScope ["_law_deck_here", "_law_items"] ["_law_deck_here", "_law_items"] (defScope s_any) := ⟨rfl, rfl, rfl, by decide +kernel, rfl, by decide +kernel, by decide +kernel⟩
abbrev s_names : Stmt := topS 15
theorem sc_names : FnScope ["_law_deck_here", "_law_many", "_law_stem", "_law_first", "_law_letters", "_law_at"] ["_law_deck_here", "_law_many"] (defScope s_names) := ⟨rfl, rfl, rfl, by decide +kernel, rfl, by decide +kernel, by decide +kernel⟩
section
variable {P : Program} {w : World} {K : PySem.W.Frag} {mg : Str → Option Value} {base : Heap} {t0 : Tok}
def aAny : ASp := fun ds m P _ => ∃ i n d xs, ds = [.mu i, d] ∧ Dk m i n ∧ n < 1000000 ∧ (∀ c, asL d (m.set i c) = some xs) ∧ asL d m = some xs ∧ 0 < xs.length ∧ xs.length < 1000000 ∧ ∀ x ∈ xs, ∀ c, dkC (n + 1) c → P (.im x) (m.set i c)
theorem len_asL {d : AV} {m : Store} {xs : List PyData} {P : AV → Store → Prop} (h : asL d m = some xs) (q : P (.im (.int xs.length)) m) : gLen [d] m P := by
  cases d with
  | im x => cases x <;> first | (cases h; done) | (cases h; exact q)
  | pr x y => cases h
  | wl ys => cases h; exact q
  | mu j =>
    unfold asL at h
    simp only at h
    split at h
    · rename_i ys e
      have := ims_eq h
      subst this
      simp only [gLen, e]
      rw [List.length_map]
      exact q
    · cases h
theorem ix_asL {d : AV} {m : Store} {xs : List PyData} {P : AV → Store → Prop} {r : Nat} {x : PyData} (h : asL d m = some xs) (e : xs[r]? = some x) (q : P (.im x) m) : gIx d (.im (.int r)) m P := by
  have ea : L2.atI xs (r : Int) = some x := atI_nat e
  cases d with
  | im y => cases y <;> first | (cases h; done) | (cases h; simp only [gIx, asQ, asT, asL, ea]; exact q)
  | pr x y => cases h
  | wl ys => cases h; simp only [gIx, asQ, asT, asL, ea]; exact q
  | mu j =>
    unfold asL at h
    simp only at h
    split at h
    · rename_i ys e2
      have := ims_eq h
      subst this
      have ea2 : L2.atI (xs.map AV.im) (r : Int) = some (.im x) := atI_nat (by rw [List.getElem?_map, e]; rfl)
      simp only [gIx, e2, ea2]
      exact q
    · cases h
theorem ok_any (hB : Bs mg t0) (D : Defd K mg "_law_any" s_any) (C_law_draw : Callee P w K mg base CX0 1 "_law_draw" ["_law_deck_here", "_law_many"] (lift aDraw)) : Callee P w K mg base CX0 2 "_law_any" ["_law_deck_here", "_law_items"] (lift aAny) := by
  refine okA D sc_any (fun _ _ _ _ _ _ us hl => match us, hl with | [_, _], _ => rfl) (fun ds m Q EA ⟨_, _, _, _, e, _⟩ => by rw [e]; rfl) fun f cdv A outer s H E B hgu hr => ?_
  refine ⟨_, _, (ss_one (s_ret (ae_ix hr (ae_v (pv 1)) (ae_call C_law_draw hgu (hr.mono (by omega)) (by rfl) pass0 (al_cons (ae_v (pv 0)) (al_cons (ae_callB ca_len (by rfl) hB.len PySem.boot_len (al_cons (ae_v (pv 1)) al_nil)) al_nil))) (fun _ _ => rfl)))), ?_⟩
  rintro _ m Q ⟨i, n, d, xs, rfl, hd, hn, h1, h2, h0, hm, q⟩
  simp only [startA, List.map_cons, List.map_nil, List.length_cons, List.length_nil, List.replicate, List.cons_append, List.nil_append, Nat.reduceAdd, Nat.reduceSub, Nat.zero_add, Nat.sub_self, List.getElem?_cons_zero, List.getElem?_cons_succ, wRet, wOp, wV, wCall, wCons, wNil, wCB]
  refine len_asL h2 ⟨i, n, xs.length, rfl, hd, hn, h0, by omega, fun r c hr hc => ?_⟩
  refine ix_asL (h1 c) (List.getElem?_eq_getElem hr) ?_
  have := q xs[r] (List.getElem_mem _) c hc
  simp only [retA, AV.und, true_and, List.take_of_length_le (Nat.le_of_eq (List.length_set ..))]
  exact this
end
end K14
end

section
set_option maxRecDepth 100000
set_option maxHeartbeats 4000000
namespace K14
open PySem PySem.Spec PyProof.Rows L2 Gd
theorem wts_len : ∀ xs : List PyData, xs.length ≤ wts xs
  | [] => Nat.le_refl _
  | x :: r => by
    have := wts_len r
    simp only [wts, List.length_cons]
    omega
theorem str_append_toList (a b : Str) : (a ++ b).cps.toList = a.cps.toList ++ b.cps.toList := by
  show (a.cps ++ b.cps).toList = _
  rw [Array.toList_append]
theorem mem1 {a : Addr} : a ∈ [a] := List.mem_singleton.mpr rfl
theorem kp1 {a b : Addr} {H H' : Hp} {o : HO} (k : Kp [a] H H') (n : b ≠ a) (e : H b = some o) : H' b = some o := k b o (fun z => n (List.mem_singleton.mp z)) e
abbrev s_odd : Stmt := topS 18
theorem sc_odd : FnScope ["_law_deck_here", "_law_thing", "_law_some"] ["_law_deck_here", "_law_thing"] (defScope s_odd) := ⟨rfl, rfl, rfl, by decide +kernel, rfl, by decide +kernel, by decide +kernel⟩
section
variable {P : Program} {w : World} {K : PySem.W.Frag} {mg : Str → Option Value} {base : Heap} {t0 : Tok}
def spAny : Sp := fun vs H Q _ => ∃ (a b : Addr) (n : Nat) (us : List V), vs = [.ref a, .ref b] ∧ Deck H a n ∧ n < 1000000 ∧ b ≠ a ∧ H b = some (.lst us) ∧ 0 < us.length ∧ us.length < 1000000 ∧ ∀ (i : Nat) v H', us[i]? = some v → Kp [a] H H' → Deck H' a (n + 1) → Q v H'
theorem ok_anyO (B : Bs mg t0) (D : Defd K mg "_law_any" s_any) (C_law_draw : Callee P w K mg base CX0 1 "_law_draw" ["_law_deck_here", "_law_many"] spDraw) : Callee P w K mg base CX0 2 "_law_any" ["_law_deck_here", "_law_items"] spAny := by
  refine D.ok sc_any (fun _ _ _ _ _ _ us hl => match us, hl with | [_, _], _ => rfl) (fun _ _ _ _ ⟨_, _, _, _, e, _⟩ => by rw [e]; rfl) fun f cdv A outer s H vs Q E hgu hr h => ?_
  obtain ⟨a, b, n, us, rfl, dk, hn, ne, hb, h0, h1, q⟩ := h
  refine ⟨_, (pss_one (ps_ret (pe_ix (ix_listK (K := K) rfl) (pv 1) (pown C_law_draw hgu (hr.mono (by omega)) (by rfl) pass0 (pa_cons (pv 0) (pa_cons (pe_callB call_len (by rfl) B.len PySem.boot_len (pa_cons (pv 1) pa_nil)) pa_nil))) (fun _ _ => rfl)))), ?_⟩
  refine ⟨.ref b, rfl, .ref a, rfl, .ref b, rfl, .ref b, us.length, rfl, .inl ⟨us, .inl (.inl hb), rfl⟩, a, n, us.length, rfl, dk, hn, h0, Nat.lt_trans h1 (by decide), fun r H' hr' k dk' => ?_⟩
  exact ⟨b, us, r, us[r], rfl, rfl, .inl (.inl (kp1 k ne hb)), atI_nat (by simp [hr']), q r _ H' (by simp [hr']) k dk'⟩
end
/-- how large an odd thing is -/
structure Od (B W D : Nat) (d : PyData) : Prop where
  g : good B d
  w : wt d ≤ W
  d : d.depth ≤ D
def Ods (B W D : Nat) (ds : List PyData) : Prop := ∀ d ∈ ds, Od B W D d
section
variable {P : Program} {w : World} {K : PySem.W.Frag} {mg : Str → Option Value} {base : Heap} {t0 : Tok}
theorem none_back {H H' : Hp} {p : Addr} (k : Kp [] H H') (h : H' p = none) : H p = none := by
  cases c : H p with
  | none => rfl
  | some o => have := k p o List.not_mem_nil c; rw [h] at this; cases this
theorem ev_pow {M : List Addr} {σ : L2.St} {H : Hp} : EvE M (tOp (rI CPow fun i j => V.int (i ^ j.toNat)) (tC (.int 10)) (tC (.int 20))) σ H (.int (10 ^ 20)) := fun H1 _ R q => ⟨10, 20, rfl, rfl, ⟨by decide, by decide, by decide⟩, q _ H1 .refl (.int _)⟩
/-- some + [..] * 2 -/
theorem app_two {M : List Addr} {ta : TA} {ds : List PyData} {σ : L2.St} {H : Hp} {i : Nat} {p : Addr} {vs : List V} {R : V → Hp → Prop} (e2 : σ[i]? = some (some (.ref p))) (ep : H p = some (.lst vs)) (hv : vs.length ≤ 1000) (ev : EvL M ta σ H ds) (hd : ds.length ≤ 1000)
    (q : ∀ p4 us H4, Kp [] H H4 → H p4 = none → H4 p4 = some (.lst (vs ++ us)) → Reps M H4 us (ds ++ ds) → R (.ref p4) H4) : tOp rCat (tVar i) (tOp rRep (tLstS ta) (tC (.int 2))) σ H R := by
  refine ⟨.ref p, e2, ev.run fun us H2 k2 rs => ?_⟩
  have lu := rs.length
  refine ⟨by rw [sizeLine_eq]; omega, fun p2 h2 _ => ?_⟩
  refine ⟨p2, 2, us, rfl, rfl, upd_same, by decide, by decide, ?_, fun p3 h3 => ?_⟩
  · show us.length * 2 ≤ sizeLine
    rw [sizeLine_eq]; omega
  · have e3 : (List.replicate (2 : Int).toNat us).flatten = us ++ us := by
      show us ++ (us ++ []) = us ++ us
      rw [List.append_nil]
    rw [e3]
    have k3 : Kp [] H2 (upd (upd H2 p2 (.lst us)) p3 (.lst (us ++ us))) := (Kp.new h2).trans (Kp.new h3)
    refine ⟨p, p3, vs, us ++ us, rfl, rfl, k3 _ _ List.not_mem_nil (k2 _ _ List.not_mem_nil ep), upd_same, by rw [List.length_append, sizeLine_eq]; omega, fun p4 h4 => ?_⟩
    exact q p4 _ _ ((k2.trans k3).trans (Kp.new h4)) (none_back (k2.trans k3) h4) upd_same (((rs.append rs).keep k3.same).keep (Kp.new h4))
/-- how many items a tuple has -/
def tupL : PyData → Nat
  | .tuple xs => xs.length
  | _ => 0
def base19 : List PyData := [.none, .bool true, .bool false, .int 0, .int 1, .int (-1), .int 12, .int (10 ^ 20), .str "", .str "a", .str "A", .str "ab", .tuple [], .list [], .dict [], .tuple [.int 0], .tuple [.str "a"], .tuple [.tuple [.str "a", .int 1]], .list [.int 0]]
theorem base_tl : ∀ d ∈ base19, tupL d ≤ 1 := by
  intro d hd
  simp only [base19, List.mem_cons, List.not_mem_nil, or_false] at hd
  rcases hd with rfl | rfl | rfl | rfl | rfl | rfl | rfl | rfl | rfl | rfl | rfl | rfl | rfl | rfl | rfl | rfl | rfl | rfl | rfl
  all_goals decide
theorem base_od {B W D : Nat} (hB : 10 ^ 20 ≤ B) : Ods (B + 1) (2 * W + 500) (D + 3) base19 := by
  have c0 : ∀ c ∈ ("" : Str).cps.toList, c < 128 := by decide +kernel
  have c1 : ∀ c ∈ ("a" : Str).cps.toList, c < 128 := by decide +kernel
  have c2 : ∀ c ∈ ("A" : Str).cps.toList, c < 128 := by decide +kernel
  have c3 : ∀ c ∈ ("ab" : Str).cps.toList, c < 128 := by decide +kernel
  have l0 : ("" : Str).length = 0 := rfl
  have l1 : ("a" : Str).length = 1 := rfl
  have l2 : ("A" : Str).length = 1 := rfl
  have l3 : ("ab" : Str).length = 2 := rfl
  intro d hd
  simp only [base19, List.mem_cons, List.not_mem_nil, or_false] at hd
  rcases hd with rfl | rfl | rfl | rfl | rfl | rfl | rfl | rfl | rfl | rfl | rfl | rfl | rfl | rfl | rfl | rfl | rfl | rfl | rfl
  all_goals
    refine ⟨?_, ?_, ?_⟩
    · first
        | trivial
        | exact c0 | exact c1 | exact c2 | exact c3
        | rfl
        | (show Int.natAbs _ ≤ _; omega)
        | exact ⟨show Int.natAbs _ ≤ _ by omega, trivial⟩
        | exact ⟨c1, trivial⟩
        | exact ⟨⟨c1, show Int.natAbs _ ≤ _ by omega, trivial⟩, trivial⟩
    · simp only [wt, wts]; omega
    · simp only [PyData.depth, PyData.depthAll, PyData.depthKv]; omega
theorem int_plain (i : Int) : ∀ c ∈ (Str.ofString (toString i)).cps.toList, c < 128 := fun c hc => by
  rw [Str.ofString_eq_toList] at hc
  have hc : c ∈ (toString i).toList.map Char.toNat := by simpa using hc
  obtain ⟨ch, h1, rfl⟩ := List.mem_map.mp hc
  exact int_ascii i ch h1
theorem cutS_plain {x : Str} {lo hi : Option Int} : (cutS x lo hi).length ≤ x.length ∧ ∀ c ∈ (cutS x lo hi).cps.toList, c ∈ x.cps.toList := by
  have e : (cutS x lo hi).cps.toList = (x.cps.toList.drop (HT.sIx x.length 0 lo)).take (HT.sIx x.length x.length hi - HT.sIx x.length 0 lo) := by simp [cutS]
  have s := cut_sub x.cps.toList (HT.sIx x.length 0 lo) (HT.sIx x.length x.length hi - HT.sIx x.length 0 lo)
  rw [← e] at s
  have l := s.length_le
  rw [Array.length_toList, Array.length_toList] at l
  exact ⟨l, fun c hc => s.subset hc⟩
def spOdd : Sp := fun vs H Q _ => ∃ (M : List Addr) (a : Addr) (n : Nat) (v : V) (d : PyData) (B W D : Nat), vs = [.ref a, v] ∧ a ∈ M ∧ Live M H ∧ Deck H a n ∧ n < 900000 ∧ Rep M H v d ∧ Od B W D d ∧ 10 ^ 20 ≤ B ∧ B < 2 ^ 399 ∧ W ≤ 20000 ∧
  ∀ v' d' H', Kp [a] H H' → Rep M H' v' d' → Od (B + 1) (2 * W + 500) (D + 3) d' → tupL d' ≤ tupL d + 1 → Deck H' a (n + 1) → Q v' H'
theorem nums {M : List Addr} {te : TE} {σ : L2.St} {H : Hp} {d : PyData} {i : Int} {B : Nat} (hd : isInt d = true) (e : i = num d) (hi : i.natAbs ≤ B) (hB : B < 2 ^ 399) (h : EvE M te σ H d) :
    EvL M (tCons (tOp (rNum fun i j => V.int (i + j)) te (tC (.int 1))) (tCons (tOp (rNum fun i j => V.int (i - j)) te (tC (.int 1))) (tCons (tCB rStrN (tCons te tNil)) (tCons (tOp (rNum fun i j => V.bl (i == j)) te (tC (.int 1))) (tCons (tUn rNegN te) tNil))))) σ H
      [.int (i + 1), .int (i - 1), .str (strN d), .bool (i == 1), .int (-i)] := by
  subst e
  have small := log2_small (B := B) (Nat.lt_trans hB (Nat.pow_lt_pow_right (by decide) (by decide))) hi
  exact ev_cons (ev_num hd h fun _ _ _ => .int _) (ev_cons (ev_num hd h fun _ _ _ => .int _) (ev_cons (ev_strN hd (by omega) h) (ev_cons (ev_num hd h fun _ _ _ => .bl _) (ev_cons (ev_negN hd h) ev_nil))))
theorem strN_od {d : PyData} {B : Nat} (hd : isInt d = true) (hi : (num d).natAbs ≤ B) (hB : B < 2 ^ 399) : (strN d).length ≤ 401 ∧ ∀ c ∈ (strN d).cps.toList, c < 128 := by
  match d, hd with
  | .bool true, _ => exact ⟨by decide +kernel, by decide +kernel⟩
  | .bool false, _ => exact ⟨by decide +kernel, by decide +kernel⟩
  | .int i, _ =>
    have small := log2_small (B := B) (Nat.lt_trans hB (Nat.pow_lt_pow_right (by decide) (by decide))) hi
    refine ⟨?_, int_plain i⟩
    have := PySem.int_text_length_le (a := i) (k := 400) (by decide) small
    show (Str.ofString (toString i)).length ≤ 401
    rw [PySem.ofString_length]
    exact this
theorem num_od {d : PyData} {i : Int} {B W D : Nat} (hd : isInt d = true) (e : i = num d) (hi : i.natAbs ≤ B) (hB : B < 2 ^ 399) : Ods (B + 1) (2 * W + 500) (D + 3) [.int (i + 1), .int (i - 1), .str (strN d), .bool (i == 1), .int (-i)] := by
  subst e
  obtain ⟨l, c⟩ := strN_od hd hi hB
  intro y hy
  simp only [List.mem_cons, List.not_mem_nil, or_false] at hy
  rcases hy with rfl | rfl | rfl | rfl | rfl
  · exact ⟨by show Int.natAbs _ ≤ _; omega, by simp only [wt]; omega, by simp only [PyData.depth]; omega⟩
  · exact ⟨by show Int.natAbs _ ≤ _; omega, by simp only [wt]; omega, by simp only [PyData.depth]; omega⟩
  · exact ⟨c, by simp only [wt]; omega, by simp only [PyData.depth]; omega⟩
  · exact ⟨trivial, by simp only [wt]; omega, by simp only [PyData.depth]; omega⟩
  · exact ⟨by show Int.natAbs _ ≤ _; omega, by simp only [wt]; omega, by simp only [PyData.depth]; omega⟩
theorem ok_odd (B : Bs mg t0) (D : Defd K mg "_law_odd" s_odd) (C_law_any : Callee P w K mg base CX0 2 "_law_any" ["_law_deck_here", "_law_items"] spAny) : Callee P w K mg base CX0 3 "_law_odd" ["_law_deck_here", "_law_thing"] spOdd := by
  refine D.ok sc_odd (fun _ _ _ _ _ _ us hl => match us, hl with | [_, _], _ => rfl) (fun _ _ _ _ ⟨_, _, _, _, _, _, _, _, e, _⟩ => by rw [e]; rfl) fun f cdv A outer s H vs Q E hgu hr h => ?_
  obtain ⟨M, a, n, v, d, bB, bW, bD, rfl, haM, live, dk, hn, r, od, hB0, hB1, hW, q⟩ := h
  have up : ∀ {H1 H2 : Hp}, Kp [a] H1 H2 → Kp M H1 H2 := fun k => k.more fun b hb => (List.mem_singleton.mp hb) ▸ haM
  refine ⟨_, (pss_cons (ps_set (i := 2) sc_odd.nd rfl (.inl rfl) (pe_lstS (pa_cons pe_non (pa_cons pe_bl (pa_cons pe_bl (pa_cons pe_int (pa_cons pe_int (pa_cons (pe_un un_neg pe_int) (pa_cons pe_int (pa_cons (pe_op op_pow pe_int pe_int) (pa_cons pe_str (pa_cons pe_str (pa_cons pe_str (pa_cons pe_str (pa_cons (pe_tup pa_nil) (pa_cons (pe_lstS pa_nil) (pa_cons pe_dnewK (pa_cons (pe_tup (pa_cons pe_int pa_nil)) (pa_cons (pe_tup (pa_cons pe_str pa_nil)) (pa_cons (pe_tup (pa_cons (pe_tup (pa_cons pe_str (pa_cons pe_int pa_nil))) pa_nil)) (pa_cons (pe_lstS (pa_cons pe_int pa_nil)) pa_nil)))))))))))))))))))))
        (pss_cons (ps_if (pt_val (pe_callB call_isTup (by rfl) B.isinstance (by decide +kernel) (pa_cons (pv 1) (pa_cons (pe_bltn (v := .ty "tuple") (by rfl) B.tuple (by decide +kernel) rfl) pa_nil)))) (pss_one (ps_set (i := 2) sc_odd.nd rfl (.inl rfl) (pe_op op_cat (pv 2) (pe_op op_rep (pe_lstS (pa_cons (pe_callTy call_listT (by rfl) B.list (by decide +kernel) (pa_cons (pv 1) pa_nil)) (pa_cons (pe_slice sl_tupA (pv 1) po_none (po_some (pe_un un_neg pe_int))) (pa_cons (pe_op op_catA (pv 1) (pe_slice sl_tupA (pv 1) (po_some (pe_un un_neg pe_int)) po_none)) (pa_cons (pe_revT (pv 1)) (pa_cons (pe_tup (pa_cons (pv 1) pa_nil)) (pa_cons (pe_slice sl_tupA (pv 1) (po_some pe_int) po_none) pa_nil))))))) pe_int)))) (pss_one (ps_if (pt_val (pe_callB call_isStr (by rfl) B.isinstance (by decide +kernel) (pa_cons (pv 1) (pa_cons (pe_bltn (v := .ty "str") (by rfl) B.str (by decide +kernel) rfl) pa_nil)))) (pss_one (ps_set (i := 2) sc_odd.nd rfl (.inl rfl) (pe_op op_cat (pv 2) (pe_op op_rep (pe_lstS (pa_cons (pe_op op_add_str (pv 1) pe_str) (pa_cons (pe_slice sl_str (pv 1) po_none (po_some (pe_un un_neg pe_int))) (pa_cons (pe_bm0 PySem.F.plainAttrs_str PySem.F.slot_str_upper PySem.F.type_str_upper mt_upper (pv 1)) (pa_cons (pe_op op_add_str (pv 1) pe_str) (pa_cons (pe_tup (pa_cons (pv 1) pa_nil)) (pa_cons (pe_lstS (pa_cons (pv 1) pa_nil)) pa_nil))))))) pe_int)))) (pss_one (ps_if (pt_val (pe_callB call_isInt (by rfl) B.isinstance (by decide +kernel) (pa_cons (pv 1) (pa_cons (pe_bltn (v := .ty "int") (by rfl) B.int (by decide +kernel) rfl) pa_nil)))) (pss_one (ps_set (i := 2) sc_odd.nd rfl (.inl rfl) (pe_op op_cat (pv 2) (pe_op op_rep (pe_lstS (pa_cons (pe_op op_addN (pv 1) pe_int) (pa_cons (pe_op op_subN (pv 1) pe_int) (pa_cons (pe_callTy call_strN (by rfl) B.str (by decide +kernel) (pa_cons (pv 1) pa_nil)) (pa_cons (pe_cmpR op_eqN (pv 1) pe_int (nomark _)) (pa_cons (pe_un un_negN (pv 1)) pa_nil)))))) pe_int)))) pss_nil)))))
        (pss_one (ps_ret (pown C_law_any hgu (hr.mono (by omega)) (by rfl) pass0 (pa_cons (pv 0) (pa_cons (pv 2) pa_nil))))))), ?_⟩
  obtain ⟨oa, ea⟩ := dk.some
  obtain ⟨T, hT⟩ : ∃ T, tupL d = T := ⟨_, rfl⟩
  rw [hT] at q
  have ev : EvL M _ [some (.ref a), some v, none] H base19 := ev_cons ev_non (ev_cons (ev_bl true) (ev_cons (ev_bl false) (ev_cons (ev_int 0) (ev_cons (ev_int 1) (ev_cons (ev_neg 1) (ev_cons (ev_int 12) (ev_cons ev_pow (ev_cons (ev_str "") (ev_cons (ev_str "a") (ev_cons (ev_str "A") (ev_cons (ev_str "ab")
    (ev_cons (ev_tup live ev_nil (by decide)) (ev_cons (ev_lst live ev_nil (by decide)) (ev_cons (ev_emp live) (ev_cons (ev_tup live (ev_cons (ev_int 0) ev_nil) (by decide)) (ev_cons (ev_tup live (ev_cons (ev_str "a") ev_nil) (by decide))
    (ev_cons (ev_tup live (ev_cons (ev_tup live (ev_cons (ev_str "a") (ev_cons (ev_int 1) ev_nil)) (by decide)) ev_nil) (by decide)) (ev_cons (ev_lst live (ev_cons (ev_int 0) ev_nil) (by decide)) ev_nil))))))))))))))))))
  refine seq_i (asg_i (lst_i (ev.run fun vs19 H2 k2 r19 => ⟨by rw [r19.length]; exact small (by decide), fun p hp _ => ?_⟩)))
  have l19 : vs19.length = 19 := r19.length
  have b19 : Ods (bB + 1) (2 * bW + 500) (bD + 3) base19 := base_od hB0
  have fin : ∀ (p' : Addr) (us : List V) (ds : List PyData) (H' : Hp), Kp [] H H' → H p' = none → H' p' = some (.lst us) → Reps M H' us ds → Ods (bB + 1) (2 * bW + 500) (bD + 3) ds → (∀ d' ∈ ds, tupL d' ≤ T + 1) → 0 < us.length → us.length ≤ 1000 →
      tCall spAny [] E0 (tCons (tVar 0) (tCons (tVar 2) tNil)) [some (.ref a), some v, some (.ref p')] H' Q := fun p' us ds H' k hp' e rs ods tls l0 l1 => by
    have ne : p' ≠ a := (ne_of_none ea hp').symm
    refine ⟨.ref a, rfl, .ref p', rfl, a, p', n, us, rfl, dk.keep k List.not_mem_nil, by omega, ne, e, l0, by omega, fun i v' H3 ei k3 dk3 => ?_⟩
    obtain ⟨d', ed, rd⟩ := rs.at ei
    exact q v' d' H3 (k.same.trans k3) (rd.keep (up k3)) (ods d' (List.mem_of_getElem? ed)) (tls d' (List.mem_of_getElem? ed)) dk3
  have kp : Kp [] H (upd H2 p (.lst vs19)) := k2.trans (Kp.new hp)
  have np : H p = none := none_back k2 hp
  have r19' : Reps M (upd H2 p (.lst vs19)) vs19 base19 := r19.keep (Kp.new hp)
  have ep : (upd H2 p (.lst vs19)) p = some (.lst vs19) := upd_same
  generalize upd H2 p (.lst vs19) = H3 at kp r19' ep ⊢
  have r3 := r.keep (kp.same (M := M))
  have live3 := live.grow kp
  have two : ∀ {x : List PyData}, Ods (bB + 1) (2 * bW + 500) (bD + 3) x → Ods (bB + 1) (2 * bW + 500) (bD + 3) (base19 ++ (x ++ x)) := fun h d hd => by
    rcases List.mem_append.mp hd with hd | hd
    · exact b19 d hd
    · exact (List.mem_append.mp hd).elim (h d) (h d)
  have bt : ∀ d ∈ base19, tupL d ≤ T + 1 := fun d hd => Nat.le_trans (base_tl d hd) (by omega)
  have twoT : ∀ {x : List PyData}, (∀ d ∈ x, tupL d ≤ T + 1) → ∀ d ∈ base19 ++ (x ++ x), tupL d ≤ T + 1 := fun h d hd => by
    rcases List.mem_append.mp hd with hd | hd
    · exact bt d hd
    · exact (List.mem_append.mp hd).elim (h d) (h d)
  refine ⟨v, rfl, M, v, d, rfl, r3, _, rfl, ?_⟩
  have lB : bB ≤ bB + 1 := Nat.le_succ _
  have sg : good (bB + 1) d := od.g.mono lB
  have sw := od.w
  have sd := od.d
  have ev1 : EvE M (tVar 1) [some (.ref a), some v, some (.ref p)] H3 d := ev_var rfl r3
  -- behind a list that grew by six
  have app : ∀ (ta : TA) (x : List PyData), EvL M ta [some (.ref a), some v, some (.ref p)] H3 x → x.length ≤ 8 → Ods (bB + 1) (2 * bW + 500) (bD + 3) x → (∀ d ∈ x, tupL d ≤ T + 1) → tOp rCat (tVar 2) (tOp rRep (tLstS ta) (tC (.int 2))) [some (.ref a), some v, some (.ref p)] H3
      fun x H1 => tCall spAny [] E0 (tCons (tVar 0) (tCons (tVar 2) tNil)) [some (.ref a), some v, some x] H1 Q := fun ta x ev hx ods tls =>
    app_two rfl ep (by omega) ev (by omega) fun p4 us H4 k4 n4 e4 rs => by
      have lu := rs.length
      rw [List.length_append] at lu
      exact fin p4 _ _ H4 (kp.trans k4) (none_back kp n4) e4 ((r19'.keep k4.same).append rs) (two ods) (twoT tls) (by rw [List.length_append]; omega) (by rw [List.length_append]; omega)
  have pick : ∀ {x : List PyData} {y : PyData}, y ∈ x → x.all (fun _ => true) = true := fun _ => by simp
  match d, r3, sg, sw, sd, ev1, hT with
  | .tuple ds, r3, sg, sw, sd, ev1, hT =>
    refine iteT (asg_i ?_)
    have g : goods (bB + 1) ds := sg
    simp only [wt] at sw
    simp only [PyData.depth] at sd
    have gi := goods_iff.mp g
    have di := depthAll_le.mp (Nat.le_refl (PyData.depthAll ds))
    have dl : ds.length ≤ 20000 := Nat.le_trans (wts_len ds) (by omega)
    obtain ⟨a1, b1, e1⟩ := ev_cut (K := K) (tl := tNoPart) (th := tPart (tUn (rU fun i => V.int (-i)) (tC (.int 1)))) (lo := none) (hi := some (-1)) live3 ev1 (fun H1 R h => po_no R h) (fun H1 R h => ⟨1, rfl, -1, rfl, h⟩)
    have hT : ds.length = T := hT
    have e2 := ev_cutX (K := K) (tl := tPart (tUn (rU fun i => V.int (-i)) (tC (.int 1)))) (th := tNoPart) (lo := some (-1)) (hi := none) live3 ev1 (fun H1 R h => ⟨1, rfl, -1, rfl, h⟩) (fun H1 R h => po_no R h)
    obtain ⟨a3, b3, e3⟩ := ev_cut (K := K) (tl := tPart (tC (.int 1))) (th := tNoPart) (lo := some 1) (hi := none) live3 ev1 (fun H1 R h => ⟨1, rfl, h⟩) (fun H1 R h => po_no R h)
    have b2l : HT.sIx ds.length ds.length none - HT.sIx ds.length 0 (some (-1)) ≤ 1 := by simp [HT.sIx]; omega
    generalize HT.sIx ds.length 0 (some (-1)) = a2 at e2 b2l
    generalize HT.sIx ds.length ds.length none - a2 = b2 at e2 b2l
    have s1 := cut_sub ds a1 b1
    have s2 := cut_sub ds a2 b2
    have s3 := cut_sub ds a3 b3
    have w1 := wts_sub s1
    have w2 := wts_sub s2
    have w3 := wts_sub s3
    refine app _ _ (ev_cons (ev_list live3 ev1) (ev_cons e1 (ev_cons (ev_cat (K := K) live3 ev1 e2 (by have := s2.length_le; omega)) (ev_cons (ev_rev live3 ev1) (ev_cons (ev_tup live3 (ev_cons ev1 ev_nil) (by simp)) (ev_cons e3 ev_nil)))))) (by simp) (fun y hy => ?_) fun y hy => ?_
    rotate_left
    · simp only [List.mem_cons, List.not_mem_nil, or_false] at hy
      have l1 := s1.length_le
      have l3 := s3.length_le
      have l2 : ((ds.drop a2).take b2).length ≤ 1 := by rw [List.length_take]; omega
      rcases hy with rfl | rfl | rfl | rfl | rfl | rfl <;> simp only [tupL, List.length_append, List.length_reverse, List.length_cons, List.length_nil] <;> omega
    simp only [List.mem_cons, List.not_mem_nil, or_false] at hy
    have part : ∀ xs : List PyData, xs.Sublist ds → Od (bB + 1) (2 * bW + 500) (bD + 3) (.tuple xs) := fun xs hs =>
      ⟨goods_iff.mpr fun x hx => gi x (hs.subset hx), by have := wts_sub hs; simp only [wt]; omega, by
        have : PyData.depthAll xs ≤ PyData.depthAll ds := depthAll_le.mpr fun x hx => di x (hs.subset hx)
        simp only [PyData.depth]; omega⟩
    rcases hy with rfl | rfl | rfl | rfl | rfl | rfl
    · exact ⟨g, by simp only [wt]; omega, by simp only [PyData.depth]; omega⟩
    · exact part _ s1
    · refine ⟨goods_iff.mpr fun x hx => ?_, by simp only [wt, wts_append]; omega, ?_⟩
      · rcases List.mem_append.mp hx with hx | hx
        · exact gi x hx
        · exact gi x (s2.subset hx)
      · have : PyData.depthAll (ds ++ (ds.drop a2).take b2) ≤ PyData.depthAll ds := depthAll_le.mpr fun x hx => by
          rcases List.mem_append.mp hx with hx | hx
          · exact di x hx
          · exact di x (s2.subset hx)
        simp only [PyData.depth]; omega
    · refine ⟨goods_iff.mpr fun x hx => gi x (List.mem_reverse.mp hx), by simp only [wt, wts_reverse]; omega, ?_⟩
      have : PyData.depthAll ds.reverse ≤ PyData.depthAll ds := depthAll_le.mpr fun x hx => di x (List.mem_reverse.mp hx)
      simp only [PyData.depth]; omega
    · exact ⟨⟨g, trivial⟩, by simp only [wt, wts]; omega, by simp only [PyData.depth, PyData.depthAll]; omega⟩
    · exact part _ s3
  | .str x, r3, sg, sw, sd, ev1, hT =>
    refine iteF ⟨v, rfl, M, v, _, rfl, r3, _, rfl, iteT (asg_i ?_)⟩
    have g : ∀ c ∈ x.cps.toList, c < 128 := sg
    simp only [wt] at sw
    have l1 : ("a" : Str).length = 1 := rfl
    have l2 : (" " : Str).length = 1 := rfl
    have c1 : ∀ c ∈ ("a" : Str).cps.toList, c < 128 := by decide +kernel
    have c2 : ∀ c ∈ (" " : Str).cps.toList, c < 128 := by decide +kernel
    have add : ∀ y : Str, y.length = 1 → (∀ c ∈ y.cps.toList, c < 128) → Od (bB + 1) (2 * bW + 500) (bD + 3) (.str (x ++ y)) := fun y hl hc => by
      refine ⟨fun c h => ?_, ?_, by simp only [PyData.depth]; omega⟩
      · rw [str_append_toList] at h
        exact (List.mem_append.mp h).elim (g c) (hc c)
      · simp only [wt, strLen_append]; omega
    refine app _ _ (ev_cons (ev_adds ev1 (ev_str "a") (by omega)) (ev_cons (ev_cutS (tl := tNoPart) (th := tPart (tUn (rU fun i => V.int (-i)) (tC (.int 1)))) (lo := none) (hi := some (-1)) ev1 (by omega) (fun H1 R h => po_no R h) (fun H1 R h => ⟨1, rfl, -1, rfl, h⟩))
      (ev_cons (ev_upper (K := K) ev1 (by omega)) (ev_cons (ev_adds ev1 (ev_str " ") (by omega)) (ev_cons (ev_tup live3 (ev_cons ev1 ev_nil) (by simp)) (ev_cons (ev_lst live3 (ev_cons ev1 ev_nil) (by simp)) ev_nil)))))) (by simp) (fun y hy => ?_) fun y hy => ?_
    rotate_left
    · simp only [List.mem_cons, List.not_mem_nil, or_false] at hy
      rcases hy with rfl | rfl | rfl | rfl | rfl | rfl <;> simp [tupL]
    simp only [List.mem_cons, List.not_mem_nil, or_false] at hy
    rcases hy with rfl | rfl | rfl | rfl | rfl | rfl
    · exact add _ l1 c1
    · obtain ⟨z1, z2⟩ := cutS_plain (x := x) (lo := none) (hi := some (-1))
      exact ⟨fun c hc => g c (z2 c hc), by simp only [wt]; omega, by simp only [PyData.depth]; omega⟩
    · obtain ⟨z1, z2⟩ := upper_plain x g
      exact ⟨z2, by simp only [wt]; omega, by simp only [PyData.depth]; omega⟩
    · exact add _ l2 c2
    · exact ⟨⟨g, trivial⟩, by simp only [wt, wts]; omega, by simp only [PyData.depth, PyData.depthAll]; omega⟩
    · exact ⟨⟨g, trivial⟩, by simp only [wt, wts]; omega, by simp only [PyData.depth, PyData.depthAll]; omega⟩
  | .int i, r3, sg, sw, sd, ev1, hT =>
    refine iteF ⟨v, rfl, M, v, _, rfl, r3, _, rfl, iteF ⟨v, rfl, M, v, _, rfl, r3, _, rfl, iteT (asg_i ?_)⟩⟩
    have ho : i.natAbs ≤ bB := od.g
    refine app _ _ (nums rfl (i := i) rfl ho hB1 ev1) (by simp) (num_od rfl rfl ho hB1) (fun y hy => by
      simp only [List.mem_cons, List.not_mem_nil, or_false] at hy
      rcases hy with rfl | rfl | rfl | rfl | rfl <;> simp [tupL])
  | .bool b, r3, sg, sw, sd, ev1, hT =>
    refine iteF ⟨v, rfl, M, v, _, rfl, r3, _, rfl, iteF ⟨v, rfl, M, v, _, rfl, r3, _, rfl, iteT (asg_i ?_)⟩⟩
    have ho : (num (.bool b)).natAbs ≤ bB := by cases b <;> simp [num] <;> omega
    refine app _ _ (nums rfl (i := num (.bool b)) rfl ho hB1 ev1) (by simp) (num_od rfl rfl ho hB1) (fun y hy => by
      simp only [List.mem_cons, List.not_mem_nil, or_false] at hy
      rcases hy with rfl | rfl | rfl | rfl | rfl <;> simp [tupL])
  | .none, r3, sg, sw, sd, ev1, hT | .list _, r3, sg, sw, sd, ev1, hT | .dict _, r3, sg, sw, sd, ev1, hT =>
    refine iteF ⟨v, rfl, M, v, _, rfl, r3, _, rfl, iteF ⟨v, rfl, M, v, _, rfl, r3, _, rfl, iteF ?_⟩⟩
    exact fin p vs19 base19 H3 kp np ep r19' b19 bt (by omega) (by omega)
end
end K14
end

section
set_option maxRecDepth 100000
set_option maxHeartbeats 4000000
namespace K14
open PySem PySem.Spec PyProof.Rows L2 Gd
abbrev s_bent : Stmt := topS 19
theorem sc_bent : FnScope ["_law_deck_here", "_law_thing", "_law_deep", "_law_at"] ["_law_deck_here", "_law_thing", "_law_deep"] (defScope s_bent) := ⟨rfl, rfl, rfl, by decide +kernel, rfl, by decide +kernel, by decide +kernel⟩
section
variable {P : Program} {w : World} {K : PySem.W.Frag} {mg : Str → Option Value} {base : Heap} {t0 : Tok}
def spBent (m : Nat) : Sp := fun vs H Q _ => ∃ (M : List Addr) (a : Addr) (n : Nat) (v : V) (d : PyData) (k B W D : Nat), vs = [.ref a, v, .int k] ∧ a ∈ M ∧ Live M H ∧ k ≤ m ∧ Deck H a n ∧ n + 2 * k < 800000 ∧ Rep M H v d ∧ Od B W D d ∧ 10 ^ 20 ≤ B ∧ B < 2 ^ 399 ∧ W ≤ 20000 ∧
  ∀ v' d' H', Kp [a] H H' → Rep M H' v' d' → Od (B + 1) (2 * W + 500) (D + 3) d' → tupL d' ≤ tupL d + 1 → Deck H' a (n + 2 * k + 1) → Q v' H'
theorem Od.at {B W D n : Nat} {ds : List PyData} {x : PyData} (o : Od B W D (.tuple ds)) (h : ds[n]? = some x) : Od B (wt x) (D - 1) x ∧ wts ds = wts (ds.take n) + (wt x + 1) + wts (ds.drop (n + 1)) ∧ wts ds + 1 ≤ W ∧ 1 ≤ D := by
  have m := List.mem_of_getElem? h
  have w := o.w
  have d := o.d
  simp only [wt] at w
  simp only [PyData.depth] at d
  have di := depthAll_le.mp (Nat.le_refl (PyData.depthAll ds)) x m
  exact ⟨⟨goods_iff.mp o.g x m, Nat.le_refl _, by omega⟩, wts_at h, by omega, by omega⟩
theorem Od.put {B W D n : Nat} {ds : List PyData} {x y : PyData} (o : Od B W D (.tuple ds)) (h : ds[n]? = some x) (oy : Od (B + 1) (2 * wt x + 500) (D - 1 + 3) y) : Od (B + 1) (2 * W + 500) (D + 3) (.tuple (ds.take n ++ [y] ++ ds.drop (n + 1))) := by
  obtain ⟨ox, ew, hw, hd⟩ := o.at h
  have g := goods_iff.mp o.g
  have d := o.d
  simp only [PyData.depth] at d
  have di := depthAll_le.mp (Nat.le_refl (PyData.depthAll ds))
  have mem : ∀ z ∈ ds.take n ++ [y] ++ ds.drop (n + 1), z ∈ ds ∨ z = y := fun z hz => by
    rcases List.mem_append.mp hz with hz | hz
    · rcases List.mem_append.mp hz with hz | hz
      · exact .inl (List.mem_of_mem_take hz)
      · exact .inr (List.mem_singleton.mp hz)
    · exact .inl (List.mem_of_mem_drop hz)
  refine ⟨goods_iff.mpr fun z hz => ?_, ?_, ?_⟩
  · rcases mem z hz with hz | rfl
    · exact (g z hz).mono (Nat.le_succ _)
    · exact oy.g
  · have := oy.w
    simp only [wt, wts_append, wts]
    omega
  · have : PyData.depthAll (ds.take n ++ [y] ++ ds.drop (n + 1)) ≤ D + 2 := depthAll_le.mpr fun z hz => by
      rcases mem z hz with hz | rfl
      · have := di z hz; omega
      · have := oy.d; omega
    simp only [PyData.depth]; omega
theorem ok_bent0 (m k : Nat) (B : Bs mg t0) (D : Defd K mg "_law_bent" s_bent) (C_law_draw : Callee P w K mg base CX0 1 "_law_draw" ["_law_deck_here", "_law_many"] spDraw) (C_law_odd : Callee P w K mg base CX0 3 "_law_odd" ["_law_deck_here", "_law_thing"] spOdd)
    (sub : Sp) (hk : 3 ≤ k) (C_law_bent : Callee P w K mg base CX0 k "_law_bent" ["_law_deck_here", "_law_thing", "_law_deep"] sub) (hsub : ∀ vs H Q E m', m = m' + 1 → spBent m' vs H Q E → sub vs H Q E) :
    Callee P w K mg base CX0 (k + 1) "_law_bent" ["_law_deck_here", "_law_thing", "_law_deep"] (spBent m) := by
  refine D.ok sc_bent (fun _ _ _ _ _ _ us hl => match us, hl with | [_, _, _], _ => rfl) (fun _ _ _ _ ⟨_, _, _, _, _, _, _, _, _, e, _⟩ => by rw [e]; rfl) fun f cdv A outer s H vs Q E hgu hr h => ?_
  obtain ⟨M, a, n, v, d, kk, bB, bW, bD, rfl, haM, live, hkm, dk, hn, r, od, hB0, hB1, hW, q⟩ := h
  refine ⟨_, (pss_cons (ps_if (PW.pt (pw_or (pt_cmpR op_eq (pv 2) pe_int (nomark _)) (pw_or (pt_not (pt_val (pe_callB call_isTup (by rfl) B.isinstance (by decide +kernel) (pa_cons (pv 1) (pa_cons (pe_bltn (v := .ty "tuple") (by rfl) B.tuple (by decide +kernel) rfl) pa_nil))))) (pw_or (pt_cmpR (op_eqE hr) (pv 1) (pe_tup pa_nil) (nomark _)) (pw_or1 (pt_cmpR op_eq (pown C_law_draw hgu (hr.mono (by omega)) (by rfl) pass0 (pa_cons (pv 0) (pa_cons pe_int pa_nil))) pe_int (nomark _))))))) (pss_one (ps_ret (pown C_law_odd hgu (hr.mono (by omega)) (by rfl) pass0 (pa_cons (pv 0) (pa_cons (pv 1) pa_nil))))) pss_nil)
        (pss_cons (ps_set (i := 3) sc_bent.nd rfl (.inl rfl) (pown C_law_draw hgu (hr.mono (by omega)) (by rfl) pass0 (pa_cons (pv 0) (pa_cons (pe_callB call_len (by rfl) B.len PySem.boot_len (pa_cons (pv 1) pa_nil)) pa_nil))))
        (pss_one (ps_ret (pe_op op_catA (pe_op op_catA (pe_slice sl_tupA (pv 1) po_none (po_some (pv 3))) (pe_tup (pa_cons (pown C_law_bent hgu (hr.mono (by omega)) (by rfl) pass0 (pa_cons (pv 0) (pa_cons (pe_ix (ix_tupK (K := K) rfl) (pv 1) (pv 3) (fun _ _ => rfl)) (pa_cons (pe_op op_sub (pv 2) pe_int) pa_nil)))) pa_nil))) (pe_slice sl_tupA (pv 1) (po_some (pe_op op_add (pv 3) pe_int)) po_none)))))), ?_⟩
  obtain ⟨oa, ea⟩ := dk.some
  have up : ∀ {H1 H2 : Hp}, Kp [a] H1 H2 → Kp M H1 H2 := fun k => k.more fun b hb => (List.mem_singleton.mp hb) ▸ haM
  have lup : ∀ {H1 H2 : Hp}, Kp [a] H1 H2 → (∃ o, H2 a = some o) → Live M H1 → Live M H2 := fun k e l b hb => by
    by_cases z : b = a
    · rw [z]; exact e
    · obtain ⟨o, eo⟩ := l b hb; exact ⟨o, k b o (fun q => z (List.mem_singleton.mp q)) eo⟩
  have odd : ∀ n0 H', Kp [a] H H' → Deck H' a n0 → n0 ≤ n + 2 * kk → tCall spOdd [] E0 (tCons (tVar 0) (tCons (tVar 1) tNil)) [some (.ref a), some v, some (.int kk), none] H' Q := fun n0 H' k' dk' hn0 =>
    ⟨.ref a, rfl, v, rfl, M, a, n0, v, d, bB, bW, bD, rfl, haM, lup k' dk'.some live, dk', by omega, r.keep (up k'), od, hB0, hB1, hW, fun v' d' H2 k2 r2 o2 l2 dk2 => q v' d' H2 (k'.trans k2) r2 o2 l2 (dk2.mono (by omega))⟩
  have draw5 : ∀ H' {R : Bool → Hp → Prop}, Kp [] H H' → (∀ (b : Bool) H2, Kp [a] H H2 → Deck H2 a (n + 1) → R b H2) → tTest (tOp rEq (tCall spDraw [] E0 (tCons (tVar 0) (tCons (tC (V.int 5)) tNil))) (tC (V.int 0))) [some (.ref a), some v, some (.int kk), none] H' R := fun H' R k' q' =>
    ⟨.ref a, rfl, a, n, 5, rfl, dk.keep k' List.not_mem_nil, by omega, by decide, by decide, fun r' H2 _ k2 dk2 => ⟨rfl, _, rfl, q' _ H2 (k'.same.trans k2) dk2⟩⟩
  refine seq_i ⟨.int kk, rfl, rfl, _, rfl, ?_⟩
  refine ite2 (fun e0 => ?_) (fun e0 => ?_)
  · exact iteT (odd n H .refl dk (by omega))
  have k1 : 1 ≤ kk := by
    rcases Nat.eq_zero_or_pos kk with h | h
    · subst h; exact absurd (decide_eq_true rfl) e0
    · exact h
  by_cases hT : isTup d = false
  · exact ⟨v, rfl, M, v, d, rfl, r, false, by rw [hT], iteT (iteT (odd n H .refl dk (by omega)))⟩
  obtain ⟨ds, rfl⟩ : ∃ ds, d = .tuple ds := by cases d <;> first | exact ⟨_, rfl⟩ | exact absurd rfl hT
  refine ⟨v, rfl, M, v, _, rfl, r, true, rfl, iteF ?_⟩
  have r0 := r
  cases r with
  | @tup p vs _ np ep rs =>
  refine ⟨.ref p, rfl, Nat.zero_le _, fun p2 h2 => ⟨p, p2, vs, rfl, rfl, Kp.new h2 _ _ List.not_mem_nil ep, upd_same, _, rfl, ?_⟩⟩
  have kE : Kp [] H (upd H p2 (.tup [])) := Kp.new h2
  refine ite2 (fun e1 => iteT (odd n _ kE.same (dk.keep kE List.not_mem_nil) (by omega))) (fun e1 => ?_)
  have vne : vs ≠ [] := fun h => e1 (by rw [h]; rfl)
  have vl : 0 < vs.length := List.length_pos_iff.mpr vne
  have ll := rs.length
  have w0 := od.w
  simp only [wt] at w0
  have lw := wts_len ds
  refine draw5 _ kE fun b H2 k2 dk2 => ?_
  cases b with
  | true => exact iteT (odd (n + 1) H2 k2 dk2 (by omega))
  | false =>
  refine iteF ?_
  dsimp only [tNext]
  refine seq_i (asg_i ?_)
  have npa : p ∉ [a] := fun z => np ((List.mem_singleton.mp z) ▸ haM)
  have rs2 := rs.keep (up k2)
  have ep2 := k2 _ _ npa ep
  refine ⟨.ref a, rfl, .ref p, rfl, .ref p, vs.length, rfl, .inr ⟨vs, .inl (.inl ep2), rfl⟩, a, n + 1, vs.length, rfl, dk2, by omega, vl, by omega, fun at_ H3 hat k3 dk3 => ?_⟩
  have k03 : Kp [a] H H3 := k2.trans k3
  have ep3 := k3 _ _ npa ep2
  have rs3 := rs2.keep (up k3)
  have live3 : Live M H3 := lup k03 dk3.some live
  have hd : at_ < ds.length := by omega
  have ev1 : EvE M (tVar 1) [some (.ref a), some (.ref p), some (.int kk), some (.int at_)] H3 (.tuple ds) := ev_var rfl (.tup np ep3 rs3)
  obtain ⟨u, eu, ru⟩ : ∃ u, vs[at_]? = some u ∧ Rep M H3 u ds[at_] := by
    have hv : vs[at_]? = some vs[at_] := List.getElem?_eq_getElem (by omega)
    obtain ⟨x, ex, rx⟩ := rs3.at hv
    refine ⟨_, hv, ?_⟩
    rw [List.getElem?_eq_getElem hd] at ex
    cases ex
    exact rx
  have eat : ds[at_]? = some ds[at_] := List.getElem?_eq_getElem hd
  generalize ds[at_] = x at ru eat
  obtain ⟨ox, ew, hw, hD⟩ := od.at eat
  have tl : (ds.take at_).length = at_ := by rw [List.length_take]; omega
  refine (ev_take (K := K) (n := at_) (th := tPart (tVar 3)) live3 ev1 (fun H1 R h => ⟨.int at_, rfl, at_, rfl, h⟩)).run fun v1 H4 k4 r1 => ?_
  refine ⟨.ref a, rfl, .ref p, rfl, .int at_, rfl, p, vs, at_, u, rfl, rfl, .inl (.inl (k4 _ _ List.not_mem_nil ep3)), atI_nat eu, .int kk, rfl, kk, 1, rfl, rfl, ?_⟩
  obtain ⟨m', rfl⟩ : ∃ m', m = m' + 1 := ⟨m - 1, by omega⟩
  have ek : (kk : Int) - 1 = ((kk - 1 : Nat) : Int) := by omega
  refine hsub _ _ _ _ m' rfl ⟨M, a, n + 2, u, x, kk - 1, bB, wt x, bD - 1, ?_, haM, live3.grow k4, by omega, dk3.keep k4 List.not_mem_nil, by omega, ru.keep k4.same, ox, hB0, hB1, by omega, fun v' d' H5 k5 r5 o5 l5 dk5 => ?_⟩
  · show [V.ref a, u, V.int ((kk : Int) - 1)] = _
    rw [ek]
  refine ⟨by show 1 ≤ sizeLine; decide, fun p6 h6 => ?_⟩
  have live5 : Live M H5 := lup k5 dk5.some (live3.grow k4)
  have r6 : Rep M (upd H5 p6 (.tup [v'])) (.ref p6) (.tuple [d']) := .tup (live5.fresh h6) upd_same (.cons (r5.keep (Kp.new h6)) .nil)
  have k6 : Kp [] H5 (upd H5 p6 (.tup [v'])) := Kp.new h6
  have od' := od.put eat o5
  generalize upd H5 p6 (.tup [v']) = H6 at r6 k6
  have k36 : Kp [a] H3 H6 := (k4.same.trans k5).trans k6.same
  have live6 := live5.grow k6
  refine cat_v (K := K) live6 (r1.keep (up (k5.trans k6.same))) r6 (by rw [tl]; show at_ + 1 ≤ 100000; omega) fun x7 H7 k7 r7 => ?_
  have live7 := live6.grow k7
  have k37 := k36.trans k7.same
  have ev7 : EvE M (tVar 1) [some (.ref a), some (.ref p), some (.int kk), some (.int at_)] H7 (.tuple ds) := ev_var rfl (.tup np (k37 _ _ npa ep3) (rs3.keep (up k37)))
  refine (ev_drop (K := K) (n := at_ + 1) (tl := tPart (tOp (rI0 fun i j => V.int (i + j)) (tVar 3) (tC (V.int 1)))) live7 ev7 (fun H1 R h => ⟨.int at_, rfl, at_, 1, rfl, rfl, _, rfl, h⟩)).run fun v8 H8 k8 r8 => ?_
  refine cat_v (K := K) (live7.grow k8) (r7.keep k8.same) r8 (by rw [List.length_append, tl, List.length_drop]; show at_ + 1 + _ ≤ 100000; omega) fun x9 H9 k9 r9 => ?_
  have lt' : tupL (.tuple (ds.take at_ ++ [d'] ++ ds.drop (at_ + 1))) ≤ tupL (.tuple ds) + 1 := by
    show (ds.take at_ ++ [d'] ++ ds.drop (at_ + 1)).length ≤ ds.length + 1
    rw [List.length_append, List.length_append, List.length_take, List.length_drop, List.length_cons, List.length_nil]; omega
  exact q x9 _ H9 (k03.trans (k37.trans (k8.trans k9).same)) r9 od' lt' ((dk5.keep (k6.trans (k7.trans (k8.trans k9))) List.not_mem_nil).mono (by omega))
theorem ok_bent (B : Bs mg t0) (D : Defd K mg "_law_bent" s_bent) (C_law_draw : Callee P w K mg base CX0 1 "_law_draw" ["_law_deck_here", "_law_many"] spDraw) (C_law_odd : Callee P w K mg base CX0 3 "_law_odd" ["_law_deck_here", "_law_thing"] spOdd) :
    ∀ m : Nat, Callee P w K mg base CX0 (4 + m) "_law_bent" ["_law_deck_here", "_law_thing", "_law_deep"] (spBent m)
  | 0 => ok_bent0 0 3 B D C_law_draw C_law_odd (fun _ _ _ _ => False) (Nat.le_refl 3) (D.ok sc_bent (fun _ _ _ _ _ _ us hl => match us, hl with | [_, _, _], _ => rfl) (fun _ _ _ _ h => h.elim) (fun _ _ _ _ _ _ _ _ _ _ _ h => h.elim)) fun _ _ _ _ m' h => absurd h (by omega)
  | m + 1 => ok_bent0 (m + 1) (4 + m) B D C_law_draw C_law_odd (spBent m) (by omega) (ok_bent B D C_law_draw C_law_odd m) fun _ _ _ _ m' h h2 => by
      cases (by omega : m' = m)
      exact h2
end
end K14
end

section
set_option maxRecDepth 100000
set_option maxHeartbeats 4000000
namespace K14
open PySem PySem.Spec PyProof.Rows L2 Gd Ab
section
variable {P : Program} {w : World} {K : PySem.W.Frag} {mg : Str → Option Value} {base : Heap} {t0 : Tok}
theorem deck_put {N M : List Addr} {H H' : Hp} {m : Store} {i n : Nat} {a : Addr} (R : Rel N M H m) (ha : M[i]? = some a) (kp : Kp [a] H H') (dk : Deck H' a n) : ∃ c, dkC n c ∧ Ext M H M H' ∧ Rel N M H' (m.set i c) := by
  have am : a ∈ M := List.mem_of_getElem? ha
  obtain ⟨x, y, z, e', b1, b2, b3, b4, b5⟩ := dk
  have x' : Ext M H M H' := ⟨List.prefix_refl _, kp.more fun b hb => by rw [List.mem_singleton.mp hb]; exact am, fun a h h' => absurd h h'⟩
  refine ⟨.lst [.im (.int x), .im (.int y), .im (.int z)], ⟨x, y, z, rfl, b1, b2, b3, b4, b5⟩, x', R.nd, by rw [List.length_set]; exact R.len, fun j b c' g1 g2 => ?_, fun b hb => ?_⟩
  · by_cases z' : j = i
    · subst z'
      rw [ha] at g1
      cases g1
      rw [List.getElem?_set_self (by rw [← R.len]; exact (List.getElem?_eq_some_iff.mp ha).1)] at g2
      cases g2
      exact ⟨_, e', .cons (.int _) (.cons (.int _) (.cons (.int _) .nil))⟩
    · rw [List.getElem?_set_ne (Ne.symm z')] at g2
      refine (R.cell j b c' g1 g2).ext x' fun o ho => kp b o (fun hb => ?_) ho
      rw [List.mem_singleton.mp hb] at g1
      exact z' ((List.getElem?_inj (List.getElem?_eq_some_iff.mp g1).1 R.nd).mp (g1.trans ha.symm))
  · obtain ⟨o, ho⟩ := R.there b hb
    by_cases z' : b = a
    · exact ⟨_, by rw [z']; exact e'⟩
    · exact ⟨o, kp b o (fun h => z' (List.mem_singleton.mp h)) ho⟩
/-- data, bent at some place no deeper than k -/
def aBent (top : Nat) : ASp := fun ds m P _ => ∃ (i n : Nat) (d : PyData) (k B W D : Nat), ds = [.mu i, .im d, .im (.int k)] ∧ Dk m i n ∧ k ≤ top ∧ n + 2 * k < 800000 ∧ Od B W D d ∧ 10 ^ 20 ≤ B ∧ B < 2 ^ 399 ∧ W ≤ 20000 ∧ ∀ d' c, Od (B + 1) (2 * W + 500) (D + 3) d' → dkC (n + 2 * k + 1) c → P (.im d') (m.set i c)
theorem bent_a {k top : Nat} (C : Callee P w K mg base CX0 k "_law_bent" ["_law_deck_here", "_law_thing", "_law_deep"] (spBent top)) : Callee P w K mg base CX0 k "_law_bent" ["_law_deck_here", "_law_thing", "_law_deep"] (lift (aBent top)) := C.imp fun vs H Q E h => by
  obtain ⟨N, M, m, ds, Pd, EA, R, r, ⟨i, n, d, k, Bd, W, D, rfl, ⟨c, ec, hc⟩, hk, hn, od, h1, h2, h3, q⟩, _, q'⟩ := h
  obtain ⟨v, u, x, rfl, rv, ru, rx⟩ := val3 r
  obtain ⟨a, ha, dk⟩ := deck_of R ec hc
  obtain ⟨_, a', ha', rfl⟩ := rv
  rw [ha] at ha'
  cases ha'
  cases rx
  have am : a ∈ M := List.mem_of_getElem? ha
  refine ⟨M ++ N, a, n, u, d, k, Bd, W, D, rfl, List.mem_append_left _ am, R.live, hk, dk, hn, ru, od, h1, h2, h3, fun v' d' H' kp rr od' _ dk' => ?_⟩
  obtain ⟨c', hc', x', R'⟩ := deck_put R ha kp dk'
  exact q' v' (.im d') M H' _ x' R' rr (q d' c' od' hc')
/-- the same, with the number of items -/
def aBentL (top : Nat) : ASp := fun ds m P _ => ∃ (i n : Nat) (d : PyData) (k B W D : Nat), ds = [.mu i, .im d, .im (.int k)] ∧ Dk m i n ∧ k ≤ top ∧ n + 2 * k < 800000 ∧ Od B W D d ∧ 10 ^ 20 ≤ B ∧ B < 2 ^ 399 ∧ W ≤ 20000 ∧ ∀ d' c, Od (B + 1) (2 * W + 500) (D + 3) d' → tupL d' ≤ tupL d + 1 → dkC (n + 2 * k + 1) c → P (.im d') (m.set i c)
theorem bent_l {k top : Nat} (C : Callee P w K mg base CX0 k "_law_bent" ["_law_deck_here", "_law_thing", "_law_deep"] (spBent top)) : Callee P w K mg base CX0 k "_law_bent" ["_law_deck_here", "_law_thing", "_law_deep"] (lift (aBentL top)) := C.imp fun vs H Q E h => by
  obtain ⟨N, M, m, ds, Pd, EA, R, r, ⟨i, n, d, k, Bd, W, D, rfl, ⟨c, ec, hc⟩, hk, hn, od, h1, h2, h3, q⟩, _, q'⟩ := h
  obtain ⟨v, u, x, rfl, rv, ru, rx⟩ := val3 r
  obtain ⟨a, ha, dk⟩ := deck_of R ec hc
  obtain ⟨_, a', ha', rfl⟩ := rv
  rw [ha] at ha'
  cases ha'
  cases rx
  have am : a ∈ M := List.mem_of_getElem? ha
  refine ⟨M ++ N, a, n, u, d, k, Bd, W, D, rfl, List.mem_append_left _ am, R.live, hk, dk, hn, ru, od, h1, h2, h3, fun v' d' H' kp rr od' lt' dk' => ?_⟩
  obtain ⟨c', hc', x', R'⟩ := deck_put R ha kp dk'
  exact q' v' (.im d') M H' _ x' R' rr (q d' c' od' lt' hc')
end
end K14
end

section
set_option maxRecDepth 100000
set_option maxHeartbeats 4000000
namespace K14
open PySem PySem.Spec PyProof.Rows L2 Gd Ab
abbrev s_do_talk : Stmt := topS 4
theorem sc_do_talk : FnScope ["network", "one", "other"] ["network", "one", "other"] (defScope s_do_talk) := ⟨rfl, rfl, rfl, by decide +kernel, rfl, by decide +kernel, by decide +kernel⟩
abbrev s_talk_links : Stmt := topS 5
theorem sc_talk_links : FnScope ["network", "services", "service", "other"] ["network"] (defScope s_talk_links) := ⟨rfl, rfl, rfl, by decide +kernel, rfl, by decide +kernel, by decide +kernel⟩
abbrev s_talking : Stmt := topS 6
theorem sc_talking : FnScope ["network", "links", "service"] ["network"] (defScope s_talking) := ⟨rfl, rfl, rfl, by decide +kernel, rfl, by decide +kernel, by decide +kernel⟩
section
variable {P : Program} {w : World} {K : PySem.W.Frag} {mg : Str → Option Value} {base : Heap} {t0 : Tok}
def aDoTalk : ASp := aPure fun xs d => ∃ ss ts a b, xs = [netD ss ts, .str a, .str b] ∧ NetOk ss ts ∧ okS a ∧ okS b ∧ d = .bool (talk ts a b)
theorem ok_do_talk (hB : Bs mg t0) (D : Defd K mg "do_talk" s_do_talk) : Callee P w K mg base CX0 1 "do_talk" ["network", "one", "other"] (lift aDoTalk) := by
  refine okA D sc_do_talk (fun _ _ _ _ _ _ us hl => match us, hl with | [_, _, _], _ => rfl) (fun ds m Q EA ⟨xs, d, e, ⟨_, _, _, _, h, _⟩, _⟩ => by rw [e, h]; rfl) fun f cdv A outer s H E B hgu hr => ?_
  refine ⟨_, _, (ss_one (s_ret (ae_or (K := K) rfl (ae_cmp (oa_in hr) (ae_tup (al_cons (ae_v (pv 1)) (al_cons (ae_v (pv 2)) al_nil))) (ae_ix hr (ae_v (pv 0)) ae_int (fun _ _ => rfl)) (by rfl)) (ae_one (ae_cmp (oa_in hr) (ae_tup (al_cons (ae_v (pv 2)) (al_cons (ae_v (pv 1)) al_nil))) (ae_ix hr (ae_v (pv 0)) ae_int (fun _ _ => rfl)) (by rfl)))))), ?_⟩
  rintro _ m Q ⟨_, _, rfl, ⟨ss, ts, a, b, rfl, ok, ha, hb, rfl⟩, q⟩
  simp only [startA, List.map_cons, List.map_nil, List.length_cons, List.length_nil, List.replicate, List.cons_append, List.nil_append, Nat.reduceAdd, Nat.reduceSub, Nat.zero_add, Nat.sub_self, List.getElem?_cons_zero, List.getElem?_cons_succ, Option.map_some, wRet, wRetN, wSeq, wNext, wDrop, wIfS, wAsg, wgN, wgTup, wgCons, wgNil, wPar, wOr, wAnd, Ab.wNot, wIf, wOp, wUn, wCB, wCons, wNil, wTup, wLst, wLstM, wV, wC, wB, wCh, Ab.wTru, wNotT, wAndT, wOrT, wSl, wNo, wSome, wCall, wIsI, wIsI2, wStrip, wRev, gPop, wDNew, wDNewM, wSlW, gSlW, gAddM, gTimes, itemsA, wML, wYes, gIn, gInS, gIx, gEqv, gLt, gOrd, gAdd, gMinus, gInt, gNeg, gIs, gSl, gLen, gAbs, gTwo, gI1, gApp, gExt, gTupOf, gListOf, gListM, ims, asQ, asT, asL, dat, tru, at0, at1, at2, id_eq, AV.und, keyA, Ab.isNon, wipeS, List.set_cons_zero, List.set_cons_succ, wgSub, gSt, retA, List.take_length, takeSet, takeSet2, List.foldl_cons, List.foldl_nil, List.zip_cons_cons, List.zip_nil_right, keepS_nil, keepS_cons, keepO_none, keepO_im, keepO_wl, List.length_set, List.length_append, List.set_set, true_and, any_pr, snocAt, snocTake, ims_map, ims_mapF, atD, Option.isSome_some, Option.isSome_none, if_true, if_false, Bool.false_eq_true, ite_true, ite_false]
  refine ⟨by decide, look_pr ha hb, lay_prs ok.t, ?_⟩
  unfold talk at q
  by_cases h : (a, b) ∈ ts
  · simpa [h] using q
  · simp only [h, decide_false, Bool.false_eq_true, if_false]
    exact ⟨by decide, look_pr hb ha, lay_prs ok.t, by simpa [h] using q⟩
/-- for each service its neighbours -/
def linkD (ss : List Str) (ts : List (Str × Str)) (a : Str) : List PyData := (ss.filter fun b => talk ts a b).map .str
def linksC (ss : List Str) (ts : List (Str × Str)) : List (Key × AV) := ss.map fun a => (.inr a, .wl (linkD ss ts a))
def aTalkLinks : ASp := fun ds m P _ => ∃ ss ts, ds = [.im (netD ss ts)] ∧ NetOk ss ts ∧ P (.mu m.length) (m ++ [.dk (linksC ss ts)])
theorem ok_talk_links (hB : Bs mg t0) (D : Defd K mg "talk_links" s_talk_links) (Cdo_talk : Callee P w K mg base CX0 1 "do_talk" ["network", "one", "other"] (lift aDoTalk)) : Callee P w K mg base CX0 2 "talk_links" ["network"] (lift aTalkLinks) := by
  refine okA D sc_talk_links (fun _ _ _ _ _ _ us hl => match us, hl with | [_], _ => rfl) (fun ds m Q EA ⟨_, _, e, _⟩ => by rw [e]; rfl) fun f cdv A outer s H E B hgu hr => ?_
  refine ⟨_, _, (ss_cons (s_set (i := 1) sc_talk_links.nd rfl (.inr rfl) (ae_ix hr (ae_v (pv 0)) ae_int (fun _ _ => rfl)))
        (ss_one (s_ret (ae_dc (own := [("service", 2)]) (g := (gName 2)) rfl sc_talk_links.nd (ai_any (K := K) rfl (ae_v (pv 1))) (blkOk_by (N := ["network", "services", "service", "other"]) (sc := defScope s_talk_links) (by decide +kernel)) (fun _ _ _ _ _ => (g_name (pg_name (i := 2) sc_talk_links.nd rfl (.inr rfl)))) (own_name (by decide)) (mono_name _) (fun _ _ _ _ _ => ts_nil) (fun _ _ _ _ _ => (ae_v (pv 2))) (fun _ _ _ _ _ => (ae_lc (own := [("other", 3)]) (g := (gName 3)) rfl sc_talk_links.nd (ai_any (K := K) rfl (ae_v (pv 1))) (blkOk_by (by rfl)) (fun _ _ _ _ _ => (g_name (pg_name (i := 3) sc_talk_links.nd rfl (.inl rfl)))) (own_name (by decide)) (mono_name _) (fun _ _ _ _ _ => (ts_one (at_tru (K := K) rfl (ae_call Cdo_talk hgu (hr.mono (by omega)) (by rfl) pass0 (al_cons (ae_v (pv 0)) (al_cons (ae_v (pv 2)) (al_cons (ae_v (pv 3)) al_nil))))))) (fun _ _ _ _ _ => (ae_v (pv 3))))))))), ?_⟩
  rintro _ m Q ⟨ss, ts, rfl, ok, q⟩
  simp only [startA, List.map_cons, List.map_nil, List.length_cons, List.length_nil, List.replicate, List.cons_append, List.nil_append, Nat.reduceAdd, Nat.reduceSub, Nat.zero_add, Nat.sub_self, List.getElem?_cons_zero, List.getElem?_cons_succ, Option.map_some, wRet, wRetN, wSeq, wNext, wDrop, wIfS, wAsg, wgN, wgTup, wgCons, wgNil, wPar, wOr, wAnd, Ab.wNot, wIf, wOp, wUn, wCB, wCons, wNil, wTup, wLst, wLstM, wV, wC, wB, wCh, Ab.wTru, wNotT, wAndT, wOrT, wSl, wNo, wSome, wCall, wIsI, wIsI2, wStrip, wRev, gPop, wDNew, wDNewM, wSlW, gSlW, gAddM, gTimes, itemsA, wML, wYes, gIn, gInS, gIx, gEqv, gLt, gOrd, gAdd, gMinus, gInt, gNeg, gIs, gSl, gLen, gAbs, gTwo, gI1, gApp, gExt, gTupOf, gListOf, gListM, ims, asQ, asT, asL, dat, tru, at0, at1, at2, id_eq, AV.und, keyA, Ab.isNon, wipeS, List.set_cons_zero, List.set_cons_succ, wgSub, gSt, retA, List.take_length, takeSet, takeSet2, List.foldl_cons, List.foldl_nil, List.zip_cons_cons, List.zip_nil_right, keepS_nil, keepS_cons, keepO_none, keepO_im, keepO_wl, List.length_set, List.length_append, List.set_set, true_and, any_pr, snocAt, snocTake, ims_map, ims_mapF, atD, Option.isSome_some, Option.isSome_none, if_true, if_false, Bool.false_eq_true, ite_true, ite_false, wDc, wiAny]
  rw [List.map_map]
  have key : ∀ a ∈ ss, ∀ Kt : AV → Store → Prop, Kt (.wl (linkD ss ts a)) m → wLc [3] (wiAny (wV 1)) (wgN 3) (Ab.wTru (wCall aDoTalk noE (wCons (wV 0) (wCons (wV 2) (wCons (wV 3) wNil))))) (wV 3) [some (.im (netD ss ts)), some (.im (.tuple (ss.map .str))), some (.im (.str a)), none] m Kt := fun a ha Kt hk => by
    simp only [startA, List.map_cons, List.map_nil, List.length_cons, List.length_nil, List.replicate, List.cons_append, List.nil_append, Nat.reduceAdd, Nat.reduceSub, Nat.zero_add, Nat.sub_self, List.getElem?_cons_zero, List.getElem?_cons_succ, Option.map_some, wRet, wRetN, wSeq, wNext, wDrop, wIfS, wAsg, wgN, wgTup, wgCons, wgNil, wPar, wOr, wAnd, Ab.wNot, wIf, wOp, wUn, wCB, wCons, wNil, wTup, wLst, wLstM, wV, wC, wB, wCh, Ab.wTru, wNotT, wAndT, wOrT, wSl, wNo, wSome, wCall, wIsI, wIsI2, wStrip, wRev, gPop, wDNew, wDNewM, wSlW, gSlW, gAddM, gTimes, itemsA, wML, wYes, gIn, gInS, gIx, gEqv, gLt, gOrd, gAdd, gMinus, gInt, gNeg, gIs, gSl, gLen, gAbs, gTwo, gI1, gApp, gExt, gTupOf, gListOf, gListM, ims, asQ, asT, asL, dat, tru, at0, at1, at2, id_eq, AV.und, keyA, Ab.isNon, wipeS, List.set_cons_zero, List.set_cons_succ, wgSub, gSt, retA, List.take_length, takeSet, takeSet2, List.foldl_cons, List.foldl_nil, List.zip_cons_cons, List.zip_nil_right, keepS_nil, keepS_cons, keepO_none, keepO_im, keepO_wl, List.length_set, List.length_append, List.set_set, true_and, any_pr, snocAt, snocTake, ims_map, ims_mapF, atD, Option.isSome_some, Option.isSome_none, if_true, if_false, Bool.false_eq_true, ite_true, ite_false, wLc, wLcs, wiAny]
    rw [List.map_map]
    refine ⟨by rw [List.length_map, sizeLine_eq]; have := ok.ls; omega, lc_map ss _ (fun b => if talk ts a b = true then some (.im (.str b)) else none) trivial (by simp) (fun b hb Kt hk => ?_) (fun b _ z hz => ?_) ?_⟩
    · simp only [startA, List.map_cons, List.map_nil, List.length_cons, List.length_nil, List.replicate, List.cons_append, List.nil_append, Nat.reduceAdd, Nat.reduceSub, Nat.zero_add, Nat.sub_self, List.getElem?_cons_zero, List.getElem?_cons_succ, Option.map_some, wRet, wRetN, wSeq, wNext, wDrop, wIfS, wAsg, wgN, wgTup, wgCons, wgNil, wPar, wOr, wAnd, Ab.wNot, wIf, wOp, wUn, wCB, wCons, wNil, wTup, wLst, wLstM, wV, wC, wB, wCh, Ab.wTru, wNotT, wAndT, wOrT, wSl, wNo, wSome, wCall, wIsI, wIsI2, wStrip, wRev, gPop, wDNew, wDNewM, wSlW, gSlW, gAddM, gTimes, itemsA, wML, wYes, gIn, gInS, gIx, gEqv, gLt, gOrd, gAdd, gMinus, gInt, gNeg, gIs, gSl, gLen, gAbs, gTwo, gI1, gApp, gExt, gTupOf, gListOf, gListM, ims, asQ, asT, asL, dat, tru, at0, at1, at2, id_eq, AV.und, keyA, Ab.isNon, wipeS, List.set_cons_zero, List.set_cons_succ, wgSub, gSt, retA, List.take_length, takeSet, takeSet2, List.foldl_cons, List.foldl_nil, List.zip_cons_cons, List.zip_nil_right, keepS_nil, keepS_cons, keepO_none, keepO_im, keepO_wl, List.length_set, List.length_append, List.set_set, true_and, any_pr, snocAt, snocTake, ims_map, ims_mapF, atD, Option.isSome_some, Option.isSome_none, if_true, if_false, Bool.false_eq_true, ite_true, ite_false, turnL, Function.comp]
      refine ⟨[netD ss ts, .str a, .str b], _, rfl, ⟨ss, ts, a, b, rfl, ok, ok.s a ha, ok.s b hb, rfl⟩, ?_⟩
      simp only [startA, List.map_cons, List.map_nil, List.length_cons, List.length_nil, List.replicate, List.cons_append, List.nil_append, Nat.reduceAdd, Nat.reduceSub, Nat.zero_add, Nat.sub_self, List.getElem?_cons_zero, List.getElem?_cons_succ, Option.map_some, wRet, wRetN, wSeq, wNext, wDrop, wIfS, wAsg, wgN, wgTup, wgCons, wgNil, wPar, wOr, wAnd, Ab.wNot, wIf, wOp, wUn, wCB, wCons, wNil, wTup, wLst, wLstM, wV, wC, wB, wCh, Ab.wTru, wNotT, wAndT, wOrT, wSl, wNo, wSome, wCall, wIsI, wIsI2, wStrip, wRev, gPop, wDNew, wDNewM, wSlW, gSlW, gAddM, gTimes, itemsA, wML, wYes, gIn, gInS, gIx, gEqv, gLt, gOrd, gAdd, gMinus, gInt, gNeg, gIs, gSl, gLen, gAbs, gTwo, gI1, gApp, gExt, gTupOf, gListOf, gListM, ims, asQ, asT, asL, dat, tru, at0, at1, at2, id_eq, AV.und, keyA, Ab.isNon, wipeS, List.set_cons_zero, List.set_cons_succ, wgSub, gSt, retA, List.take_length, takeSet, takeSet2, List.foldl_cons, List.foldl_nil, List.zip_cons_cons, List.zip_nil_right, keepS_nil, keepS_cons, keepO_none, keepO_im, keepO_wl, List.length_set, List.length_append, List.set_set, true_and, any_pr, snocAt, snocTake, ims_map, ims_mapF, atD, Option.isSome_some, Option.isSome_none, if_true, if_false, Bool.false_eq_true, ite_true, ite_false]
      cases h : talk ts a b <;> simpa [h] using hk
    · split at hz
      · cases hz; rfl
      · cases hz
    · have e : (ss.filterMap fun b => if talk ts a b = true then some (AV.im (.str b)) else none) = (linkD ss ts a).map .im := by
        rw [filterMap_if (fun b => talk ts a b)]; unfold linkD; rw [List.map_map]; rfl
      rw [e, ims_map]
      exact hk
  refine dc_map ss _ (fun a => .inr a) (fun a => .wl (linkD ss ts a)) trivial (by simp) ?_ (fun a ha acc Kt hl hk => ?_) ?_
  · exact nodup_map (fun _ _ h => Sum.inr.inj h) ok.nd
  · simp only [startA, List.map_cons, List.map_nil, List.length_cons, List.length_nil, List.replicate, List.cons_append, List.nil_append, Nat.reduceAdd, Nat.reduceSub, Nat.zero_add, Nat.sub_self, List.getElem?_cons_zero, List.getElem?_cons_succ, Option.map_some, wRet, wRetN, wSeq, wNext, wDrop, wIfS, wAsg, wgN, wgTup, wgCons, wgNil, wPar, wOr, wAnd, Ab.wNot, wIf, wOp, wUn, wCB, wCons, wNil, wTup, wLst, wLstM, wV, wC, wB, wCh, Ab.wTru, wNotT, wAndT, wOrT, wSl, wNo, wSome, wCall, wIsI, wIsI2, wStrip, wRev, gPop, wDNew, wDNewM, wSlW, gSlW, gAddM, gTimes, itemsA, wML, wYes, gIn, gInS, gIx, gEqv, gLt, gOrd, gAdd, gMinus, gInt, gNeg, gIs, gSl, gLen, gAbs, gTwo, gI1, gApp, gExt, gTupOf, gListOf, gListM, ims, asQ, asT, asL, dat, tru, at0, at1, at2, id_eq, AV.und, keyA, Ab.isNon, wipeS, List.set_cons_zero, List.set_cons_succ, wgSub, gSt, retA, List.take_length, takeSet, takeSet2, List.foldl_cons, List.foldl_nil, List.zip_cons_cons, List.zip_nil_right, keepS_nil, keepS_cons, keepO_none, keepO_im, keepO_wl, List.length_set, List.length_append, List.set_set, true_and, any_pr, snocAt, snocTake, ims_map, ims_mapF, atD, Option.isSome_some, Option.isSome_none, if_true, if_false, Bool.false_eq_true, ite_true, ite_false, turnD, Function.comp]
    refine key a ha _ ?_
    simp only [startA, List.map_cons, List.map_nil, List.length_cons, List.length_nil, List.replicate, List.cons_append, List.nil_append, Nat.reduceAdd, Nat.reduceSub, Nat.zero_add, Nat.sub_self, List.getElem?_cons_zero, List.getElem?_cons_succ, Option.map_some, wRet, wRetN, wSeq, wNext, wDrop, wIfS, wAsg, wgN, wgTup, wgCons, wgNil, wPar, wOr, wAnd, Ab.wNot, wIf, wOp, wUn, wCB, wCons, wNil, wTup, wLst, wLstM, wV, wC, wB, wCh, Ab.wTru, wNotT, wAndT, wOrT, wSl, wNo, wSome, wCall, wIsI, wIsI2, wStrip, wRev, gPop, wDNew, wDNewM, wSlW, gSlW, gAddM, gTimes, itemsA, wML, wYes, gIn, gInS, gIx, gEqv, gLt, gOrd, gAdd, gMinus, gInt, gNeg, gIs, gSl, gLen, gAbs, gTwo, gI1, gApp, gExt, gTupOf, gListOf, gListM, ims, asQ, asT, asL, dat, tru, at0, at1, at2, id_eq, AV.und, keyA, Ab.isNon, wipeS, List.set_cons_zero, List.set_cons_succ, wgSub, gSt, retA, List.take_length, takeSet, takeSet2, List.foldl_cons, List.foldl_nil, List.zip_cons_cons, List.zip_nil_right, keepS_nil, keepS_cons, keepO_none, keepO_im, keepO_wl, List.length_set, List.length_append, List.set_set, true_and, any_pr, snocAt, snocTake, ims_map, ims_mapF, atD, Option.isSome_some, Option.isSome_none, if_true, if_false, Bool.false_eq_true, ite_true, ite_false]
    exact ⟨by rw [sizeLine_eq]; have := ok.ls; omega, hk⟩
  · simp only [startA, List.map_cons, List.map_nil, List.length_cons, List.length_nil, List.replicate, List.cons_append, List.nil_append, Nat.reduceAdd, Nat.reduceSub, Nat.zero_add, Nat.sub_self, List.getElem?_cons_zero, List.getElem?_cons_succ, Option.map_some, wRet, wRetN, wSeq, wNext, wDrop, wIfS, wAsg, wgN, wgTup, wgCons, wgNil, wPar, wOr, wAnd, Ab.wNot, wIf, wOp, wUn, wCB, wCons, wNil, wTup, wLst, wLstM, wV, wC, wB, wCh, Ab.wTru, wNotT, wAndT, wOrT, wSl, wNo, wSome, wCall, wIsI, wIsI2, wStrip, wRev, gPop, wDNew, wDNewM, wSlW, gSlW, gAddM, gTimes, itemsA, wML, wYes, gIn, gInS, gIx, gEqv, gLt, gOrd, gAdd, gMinus, gInt, gNeg, gIs, gSl, gLen, gAbs, gTwo, gI1, gApp, gExt, gTupOf, gListOf, gListM, ims, asQ, asT, asL, dat, tru, at0, at1, at2, id_eq, AV.und, keyA, Ab.isNon, wipeS, List.set_cons_zero, List.set_cons_succ, wgSub, gSt, retA, List.take_length, takeSet, takeSet2, List.foldl_cons, List.foldl_nil, List.zip_cons_cons, List.zip_nil_right, keepS_nil, keepS_cons, keepO_none, keepO_im, keepO_wl, List.length_set, List.length_append, List.set_set, true_and, any_pr, snocAt, snocTake, ims_map, ims_mapF, atD, Option.isSome_some, Option.isSome_none, if_true, if_false, Bool.false_eq_true, ite_true, ite_false, Nat.lt_irrefl]
    exact ⟨by simp [Cell.und, AV.und], q⟩
/-- the services that talk -/
def talkers (ss : List Str) (ts : List (Str × Str)) : List Str := ss.filter fun a => !(linkD ss ts a).isEmpty
theorem look_links {ss : List Str} {ts : List (Str × Str)} {a : Str} (h : a ∈ ss) : lookA (linksC ss ts) (.inr a) = some (.wl (linkD ss ts a)) := by
  have go : ∀ l : List Str, a ∈ l → lookA (l.map fun a => ((.inr a : Key), AV.wl (linkD ss ts a))) (.inr a) = some (.wl (linkD ss ts a)) := by
    intro l
    induction l with
    | nil => intro h; cases h
    | cons b r ih =>
      intro h
      by_cases e : b = a
      · subst e; simp [lookA]
      · have e2 : ¬ (Sum.inr b : Key) = Sum.inr a := fun z => e (Sum.inr.inj z)
        have := ih ((List.mem_cons.mp h).resolve_left fun z => e z.symm)
        simpa [lookA, List.find?_cons, e2, e] using this
  exact go ss h
def aTalking : ASp := aPure fun xs d => ∃ ss ts, xs = [netD ss ts] ∧ NetOk ss ts ∧ d = .tuple ((talkers ss ts).map .str)
theorem ok_talking (hB : Bs mg t0) (D : Defd K mg "talking" s_talking) (Ctalk_links : Callee P w K mg base CX0 2 "talk_links" ["network"] (lift aTalkLinks)) : Callee P w K mg base CX0 3 "talking" ["network"] (lift aTalking) := by
  refine okA D sc_talking (fun _ _ _ _ _ _ us hl => match us, hl with | [_], _ => rfl) (fun ds m Q EA ⟨xs, d, e, ⟨_, _, h, _⟩, _⟩ => by rw [e, h]; rfl) fun f cdv A outer s H E B hgu hr => ?_
  refine ⟨_, _, (ss_cons (s_set (i := 1) sc_talking.nd rfl (.inr rfl) (ae_call Ctalk_links hgu (hr.mono (by omega)) (by rfl) pass0 (al_cons (ae_v (pv 0)) al_nil)))
        (ss_one (s_ret (ae_callTy (ca_tuple rfl) (by rfl) hB.tuple (by decide +kernel) (al_cons (ae_lc (own := [("service", 2)]) (g := (gName 2)) rfl sc_talking.nd (ai_any (K := K) rfl (ae_ix hr (ae_v (pv 0)) ae_int (fun _ _ => rfl))) (blkOk_by (N := ["network", "links", "service"]) (sc := defScope s_talking) (by decide +kernel)) (fun _ _ _ _ _ => (g_name (pg_name (i := 2) sc_talking.nd rfl (.inl rfl)))) (own_name (by decide)) (mono_name _) (fun _ _ _ _ _ => (ts_one (at_tru (K := K) rfl (ae_ix hr (ae_v (pv 1)) (ae_v (pv 2)) (fun _ _ => rfl))))) (fun _ _ _ _ _ => (ae_v (pv 2)))) al_nil))))), ?_⟩
  rintro _ m Q ⟨_, _, rfl, ⟨ss, ts, rfl, ok, rfl⟩, q⟩
  simp only [startA, List.map_cons, List.map_nil, List.length_cons, List.length_nil, List.replicate, List.cons_append, List.nil_append, Nat.reduceAdd, Nat.reduceSub, Nat.zero_add, Nat.sub_self, List.getElem?_cons_zero, List.getElem?_cons_succ, Option.map_some, wRet, wRetN, wSeq, wNext, wDrop, wIfS, wAsg, wgN, wgTup, wgCons, wgNil, wPar, wOr, wAnd, Ab.wNot, wIf, wOp, wUn, wCB, wCons, wNil, wTup, wLst, wLstM, wV, wC, wB, wCh, Ab.wTru, wNotT, wAndT, wOrT, wSl, wNo, wSome, wCall, wIsI, wIsI2, wStrip, wRev, gPop, wDNew, wDNewM, wSlW, gSlW, gAddM, gTimes, itemsA, wML, wYes, gIn, gInS, gIx, gEqv, gLt, gOrd, gAdd, gMinus, gInt, gNeg, gIs, gSl, gLen, gAbs, gTwo, gI1, gApp, gExt, gTupOf, gListOf, gListM, ims, asQ, asT, asL, dat, tru, at0, at1, at2, id_eq, AV.und, keyA, Ab.isNon, wipeS, List.set_cons_zero, List.set_cons_succ, wgSub, gSt, retA, List.take_length, takeSet, takeSet2, List.foldl_cons, List.foldl_nil, List.zip_cons_cons, List.zip_nil_right, keepS_nil, keepS_cons, keepO_none, keepO_im, keepO_wl, List.length_set, List.length_append, List.set_set, true_and, any_pr, snocAt, snocTake, ims_map, ims_mapF, atD, Option.isSome_some, Option.isSome_none, if_true, if_false, Bool.false_eq_true, ite_true, ite_false]
  refine ⟨ss, ts, rfl, ok, ?_⟩
  simp only [startA, List.map_cons, List.map_nil, List.length_cons, List.length_nil, List.replicate, List.cons_append, List.nil_append, Nat.reduceAdd, Nat.reduceSub, Nat.zero_add, Nat.sub_self, List.getElem?_cons_zero, List.getElem?_cons_succ, Option.map_some, wRet, wRetN, wSeq, wNext, wDrop, wIfS, wAsg, wgN, wgTup, wgCons, wgNil, wPar, wOr, wAnd, Ab.wNot, wIf, wOp, wUn, wCB, wCons, wNil, wTup, wLst, wLstM, wV, wC, wB, wCh, Ab.wTru, wNotT, wAndT, wOrT, wSl, wNo, wSome, wCall, wIsI, wIsI2, wStrip, wRev, gPop, wDNew, wDNewM, wSlW, gSlW, gAddM, gTimes, itemsA, wML, wYes, gIn, gInS, gIx, gEqv, gLt, gOrd, gAdd, gMinus, gInt, gNeg, gIs, gSl, gLen, gAbs, gTwo, gI1, gApp, gExt, gTupOf, gListOf, gListM, ims, asQ, asT, asL, dat, tru, at0, at1, at2, id_eq, AV.und, keyA, Ab.isNon, wipeS, List.set_cons_zero, List.set_cons_succ, wgSub, gSt, retA, List.take_length, takeSet, takeSet2, List.foldl_cons, List.foldl_nil, List.zip_cons_cons, List.zip_nil_right, keepS_nil, keepS_cons, keepO_none, keepO_im, keepO_wl, List.length_set, List.length_append, List.set_set, true_and, any_pr, snocAt, snocTake, ims_map, ims_mapF, atD, Option.isSome_some, Option.isSome_none, if_true, if_false, Bool.false_eq_true, ite_true, ite_false, wLc, wLcs, wiAny]
  rw [List.map_map]
  refine ⟨by rw [List.length_map, sizeLine_eq]; have := ok.ls; omega, lc_map ss _ (fun a => if (!(linkD ss ts a).isEmpty) = true then some (.im (.str a)) else none) trivial (by simp) (fun a ha Kt hk => ?_) (fun b _ z hz => ?_) ?_⟩
  · simp only [startA, List.map_cons, List.map_nil, List.length_cons, List.length_nil, List.replicate, List.cons_append, List.nil_append, Nat.reduceAdd, Nat.reduceSub, Nat.zero_add, Nat.sub_self, List.getElem?_cons_zero, List.getElem?_cons_succ, Option.map_some, wRet, wRetN, wSeq, wNext, wDrop, wIfS, wAsg, wgN, wgTup, wgCons, wgNil, wPar, wOr, wAnd, Ab.wNot, wIf, wOp, wUn, wCB, wCons, wNil, wTup, wLst, wLstM, wV, wC, wB, wCh, Ab.wTru, wNotT, wAndT, wOrT, wSl, wNo, wSome, wCall, wIsI, wIsI2, wStrip, wRev, gPop, wDNew, wDNewM, wSlW, gSlW, gAddM, gTimes, itemsA, wML, wYes, gIn, gInS, gIx, gEqv, gLt, gOrd, gAdd, gMinus, gInt, gNeg, gIs, gSl, gLen, gAbs, gTwo, gI1, gApp, gExt, gTupOf, gListOf, gListM, ims, asQ, asT, asL, dat, tru, at0, at1, at2, id_eq, AV.und, keyA, Ab.isNon, wipeS, List.set_cons_zero, List.set_cons_succ, wgSub, gSt, retA, List.take_length, takeSet, takeSet2, List.foldl_cons, List.foldl_nil, List.zip_cons_cons, List.zip_nil_right, keepS_nil, keepS_cons, keepO_none, keepO_im, keepO_wl, List.length_set, List.length_append, List.set_set, true_and, any_pr, snocAt, snocTake, ims_map, ims_mapF, atD, Option.isSome_some, Option.isSome_none, if_true, if_false, Bool.false_eq_true, ite_true, ite_false, turnL, Function.comp, look_links ha]
    cases h : (linkD ss ts a).isEmpty <;> simpa [h] using hk
  · split at hz
    · cases hz; rfl
    · cases hz
  · rw [filterMap_if]
    simp only [startA, List.map_cons, List.map_nil, List.length_cons, List.length_nil, List.replicate, List.cons_append, List.nil_append, Nat.reduceAdd, Nat.reduceSub, Nat.zero_add, Nat.sub_self, List.getElem?_cons_zero, List.getElem?_cons_succ, Option.map_some, wRet, wRetN, wSeq, wNext, wDrop, wIfS, wAsg, wgN, wgTup, wgCons, wgNil, wPar, wOr, wAnd, Ab.wNot, wIf, wOp, wUn, wCB, wCons, wNil, wTup, wLst, wLstM, wV, wC, wB, wCh, Ab.wTru, wNotT, wAndT, wOrT, wSl, wNo, wSome, wCall, wIsI, wIsI2, wStrip, wRev, gPop, wDNew, wDNewM, wSlW, gSlW, gAddM, gTimes, itemsA, wML, wYes, gIn, gInS, gIx, gEqv, gLt, gOrd, gAdd, gMinus, gInt, gNeg, gIs, gSl, gLen, gAbs, gTwo, gI1, gApp, gExt, gTupOf, gListOf, gListM, ims, asQ, asT, asL, dat, tru, at0, at1, at2, id_eq, AV.und, keyA, Ab.isNon, wipeS, List.set_cons_zero, List.set_cons_succ, wgSub, gSt, retA, List.take_length, takeSet, takeSet2, List.foldl_cons, List.foldl_nil, List.zip_cons_cons, List.zip_nil_right, keepS_nil, keepS_cons, keepO_none, keepO_im, keepO_wl, List.length_set, List.length_append, List.set_set, true_and, any_pr, snocAt, snocTake, ims_map, ims_mapF, atD, Option.isSome_some, Option.isSome_none, if_true, if_false, Bool.false_eq_true, ite_true, ite_false]
    exact q
end
end K14
end

section
set_option maxRecDepth 100000
set_option maxHeartbeats 4000000
namespace K14
open PySem PySem.Spec PyProof.Rows L2 Gd Ab
abbrev s_are_adjacent : Stmt := topS 9
theorem sc_are_adjacent : FnScope ["network", "one", "other"] ["network", "one", "other"] (defScope s_are_adjacent) := ⟨rfl, rfl, rfl, by decide +kernel, rfl, by decide +kernel, by decide +kernel⟩
section
variable {P : Program} {w : World} {K : PySem.W.Frag} {mg : Str → Option Value} {base : Heap} {t0 : Tok}
def adj (ts : List (Str × Str)) (p q : Str × Int) : Bool := if p.2 = q.2 then talk ts p.1 q.1 else decide (p.1 = q.1) && decide ((if p.2 - q.2 < 0 then -(p.2 - q.2) else p.2 - q.2) = 1)
def aAdj : ASp := aPure fun xs d => ∃ ss ts p q, xs = [netD ss ts, nodeE p, nodeE q] ∧ NetOk ss ts ∧ okS p.1 ∧ okS q.1 ∧ d = .bool (adj ts p q)
theorem ok_are_adjacent (hB : Bs mg t0) (D : Defd K mg "are_adjacent" s_are_adjacent) (Cdo_talk : Callee P w K mg base CX0 1 "do_talk" ["network", "one", "other"] (lift aDoTalk)) : Callee P w K mg base CX0 2 "are_adjacent" ["network", "one", "other"] (lift aAdj) := by
  refine okA D sc_are_adjacent (fun _ _ _ _ _ _ us hl => match us, hl with | [_, _, _], _ => rfl) (fun ds m Q EA ⟨xs, d, e, ⟨_, _, _, _, h, _⟩, _⟩ => by rw [e, h]; rfl) fun f cdv A outer s H E B hgu hr => ?_
  refine ⟨_, _, (ss_cons (s_if (at_cmp (oa_eq hr) (ae_ix hr (ae_v (pv 1)) ae_int (fun _ _ => rfl)) (ae_ix hr (ae_v (pv 2)) ae_int (fun _ _ => rfl)) (nomark _)) (ss_one (s_ret (ae_call Cdo_talk hgu (hr.mono (by omega)) (by rfl) pass0 (al_cons (ae_v (pv 0)) (al_cons (ae_ix hr (ae_v (pv 1)) ae_int (fun _ _ => rfl)) (al_cons (ae_ix hr (ae_v (pv 2)) ae_int (fun _ _ => rfl)) al_nil)))))) ss_nil)
        (ss_one (s_ret (ae_and (K := K) rfl (ae_cmp (oa_eq hr) (ae_ix hr (ae_v (pv 1)) ae_int (fun _ _ => rfl)) (ae_ix hr (ae_v (pv 2)) ae_int (fun _ _ => rfl)) (nomark _)) (ae_one (ae_cmp (oa_eq hr) (ae_callB ca_abs (by rfl) hB.abs (by decide +kernel) (al_cons (ae_op oa_sub (ae_ix hr (ae_v (pv 1)) ae_int (fun _ _ => rfl)) (ae_ix hr (ae_v (pv 2)) ae_int (fun _ _ => rfl))) al_nil)) ae_int (nomark _))))))), ?_⟩
  rintro _ m Q ⟨_, _, rfl, ⟨ss, ts, ⟨a, i⟩, ⟨b, j⟩, rfl, ok, ha, hb, rfl⟩, q⟩
  simp only [startA, List.map_cons, List.map_nil, List.length_cons, List.length_nil, List.replicate, List.cons_append, List.nil_append, Nat.reduceAdd, Nat.reduceSub, Nat.zero_add, Nat.sub_self, List.getElem?_cons_zero, List.getElem?_cons_succ, Option.map_some, wRet, wRetN, wSeq, wNext, wDrop, wIfS, wAsg, wgN, wgTup, wgCons, wgNil, wPar, wOr, wAnd, Ab.wNot, wIf, wOp, wUn, wCB, wCons, wNil, wTup, wLst, wLstM, wV, wC, wB, wCh, Ab.wTru, wNotT, wAndT, wOrT, wSl, wNo, wSome, wCall, wIsI, wIsI2, wStrip, wRev, gPop, wDNew, wDNewM, wSlW, gSlW, gAddM, gTimes, itemsA, wML, wYes, gIn, gInS, gIx, gEqv, gLt, gOrd, gAdd, gMinus, gInt, gNeg, gIs, gSl, gLen, gAbs, gTwo, gI1, gApp, gExt, gTupOf, gListOf, gListM, ims, asQ, asT, asL, dat, tru, at0, at1, at2, id_eq, AV.und, keyA, Ab.isNon, wipeS, List.set_cons_zero, List.set_cons_succ, wgSub, gSt, retA, List.take_length, takeSet, takeSet2, List.foldl_cons, List.foldl_nil, List.zip_cons_cons, List.zip_nil_right, keepS_nil, keepS_cons, keepO_none, keepO_im, keepO_wl, List.length_set, List.length_append, List.set_set, true_and, any_pr, snocAt, snocTake, ims_map, ims_mapF, atD, Option.isSome_some, Option.isSome_none, if_true, if_false, Bool.false_eq_true, ite_true, ite_false]
  unfold adj at q
  by_cases h : i = j
  · subst h
    simp only [decide_true, if_true] at q ⊢
    exact ⟨_, _, rfl, ⟨ss, ts, a, b, rfl, ok, ha, hb, rfl⟩, by simpa [startA, List.map_cons, List.map_nil, List.length_cons, List.length_nil, List.replicate, List.cons_append, List.nil_append, Nat.reduceAdd, Nat.reduceSub, Nat.zero_add, Nat.sub_self, List.getElem?_cons_zero, List.getElem?_cons_succ, Option.map_some, wRet, wRetN, wSeq, wNext, wDrop, wIfS, wAsg, wgN, wgTup, wgCons, wgNil, wPar, wOr, wAnd, Ab.wNot, wIf, wOp, wUn, wCB, wCons, wNil, wTup, wLst, wLstM, wV, wC, wB, wCh, Ab.wTru, wNotT, wAndT, wOrT, wSl, wNo, wSome, wCall, wIsI, wIsI2, wStrip, wRev, gPop, wDNew, wDNewM, wSlW, gSlW, gAddM, gTimes, itemsA, wML, wYes, gIn, gInS, gIx, gEqv, gLt, gOrd, gAdd, gMinus, gInt, gNeg, gIs, gSl, gLen, gAbs, gTwo, gI1, gApp, gExt, gTupOf, gListOf, gListM, ims, asQ, asT, asL, dat, tru, at0, at1, at2, id_eq, AV.und, keyA, Ab.isNon, wipeS, List.set_cons_zero, List.set_cons_succ, wgSub, gSt, retA, List.take_length, takeSet, takeSet2, List.foldl_cons, List.foldl_nil, List.zip_cons_cons, List.zip_nil_right, keepS_nil, keepS_cons, keepO_none, keepO_im, keepO_wl, List.length_set, List.length_append, List.set_set, true_and, any_pr, snocAt, snocTake, ims_map, ims_mapF, atD, Option.isSome_some, Option.isSome_none, if_true, if_false, Bool.false_eq_true, ite_true, ite_false] using q⟩
  · simp only [h, decide_false, if_false, Bool.false_eq_true] at q ⊢
    by_cases h2 : a = b
    · simpa [h2] using q
    · simpa [h2] using q
end
end K14
end

section
set_option maxRecDepth 100000
set_option maxHeartbeats 4000000
namespace K14
open PySem PySem.Spec PyProof.Rows L2 Gd Ab
section
variable {P : Program} {w : World} {K : PySem.W.Frag} {mg : Str → Option Value} {base : Heap} {t0 : Tok}
def aNames : ASp := fun ds m P _ => ∃ i n k : Nat, ds = [.mu i, .im (.int k)] ∧ Dk m i n ∧ n + 2 < 1000000 ∧ k ≤ 26 ∧ ∀ ss c, (∀ s ∈ ss, Nm s) → Asc ss → ss.length = k → dkC (n + 2) c → P (.wl (ss.map .str)) (m.set i c)
def letter (f a : Nat) : Str := ⟨#[97 + (f + 5 * a) % 26]⟩
theorem letter_at : ∀ r, r < 26 → L2.atI ("abcdefghijklmnopqrstuvwxyz" : Str).cps.toList (r : Nat) = some (97 + r) := by decide +kernel
theorem letter_ok (f a : Nat) : okS (letter f a) := by
  show PyData.strOk _ = true
  unfold PyData.strOk letter
  simp
  omega
theorem letter_inj {f a b : Nat} {x : Str} (ha : a < 26) (hb : b < 26) (h : x ++ letter f a = x ++ letter f b) : a = b := by
  have h1 : (x ++ letter f a).cps = (x ++ letter f b).cps := by rw [h]
  have h2 : x.cps ++ (letter f a).cps = x.cps ++ (letter f b).cps := h1
  have h3 := Array.append_inj_right h2 rfl
  unfold letter at h3
  simp at h3
  omega
theorem ok_names (hB : Bs mg t0) (D : Defd K mg "_law_names" s_names) (C_law_draw : Callee P w K mg base CX0 1 "_law_draw" ["_law_deck_here", "_law_many"] (lift aDraw)) (C_law_any : Callee P w K mg base CX0 2 "_law_any" ["_law_deck_here", "_law_items"] (lift aAny)) : Callee P w K mg base CX0 3 "_law_names" ["_law_deck_here", "_law_many"] (lift aNames) := by
  refine okA D sc_names (fun _ _ _ _ _ _ us hl => match us, hl with | [_, _], _ => rfl) (fun ds m Q EA ⟨_, _, _, e, _⟩ => by rw [e]; rfl) fun f cdv A outer s H E B hgu hr => ?_
  refine ⟨_, _, (ss_cons (s_asg (ae_tup (al_cons (ae_call C_law_any hgu (hr.mono (by omega)) (by rfl) pass0 (al_cons (ae_v (pv 0)) (al_cons (ae_lst (al_cons ae_str (al_cons ae_str (al_cons ae_str (al_cons ae_str (al_cons ae_str al_nil)))))) al_nil))) (al_cons (ae_call C_law_draw hgu (hr.mono (by omega)) (by rfl) pass0 (al_cons (ae_v (pv 0)) (al_cons ae_int al_nil))) al_nil))) (g_tup (K := K) rfl rfl (gs_cons (g_name (pg_name (i := 2) sc_names.nd rfl (.inr rfl))) (gs_cons (g_name (pg_name (i := 3) sc_names.nd rfl (.inr rfl))) gs_nil))))
        (ss_cons (s_set (i := 4) sc_names.nd rfl (.inr rfl) ae_str)
        (ss_one (s_ret (ae_callB (ca_sorted hr) (by rfl) hB.sorted (by decide +kernel) (al_cons (ae_lc (own := [("_law_at", 5)]) (g := (gName 5)) rfl sc_names.nd (ai_r1 (by rfl) hB.range (al_cons (ae_v (pv 1)) al_nil)) (blkOk_by (N := ["_law_deck_here", "_law_many", "_law_stem", "_law_first", "_law_letters", "_law_at"]) (sc := defScope s_names) (by decide +kernel)) (fun _ _ _ _ _ => (g_name (pg_name (i := 5) sc_names.nd rfl (.inl rfl)))) (own_name (by decide)) (mono_name _) (fun _ _ _ _ _ => ts_nil) (fun _ _ _ _ _ => (ae_op oa_add (ae_v (pv 2)) (ae_ix hr (ae_v (pv 4)) (ae_op oa_mod (ae_op oa_add (ae_v (pv 3)) (ae_op oa_mul ae_int (ae_v (pv 5)))) ae_int) (fun _ _ => rfl))))) al_nil)))))), ?_⟩
  rintro _ m Q ⟨i, n, k, rfl, ⟨c0, hm, hc0⟩, hn, hk, q⟩
  simp only [startA, List.map_cons, List.map_nil, List.length_cons, List.length_nil, List.replicate, List.cons_append, List.nil_append, Nat.reduceAdd, Nat.reduceSub, Nat.zero_add, Nat.sub_self, List.getElem?_cons_zero, List.getElem?_cons_succ, Option.map_some, wRet, wRetN, wSeq, wNext, wDrop, wIfS, wAsg, wgN, wgTup, wgCons, wgNil, wPar, wOr, wAnd, Ab.wNot, wIf, wOp, wUn, wCB, wCons, wNil, wTup, wLst, wLstM, wV, wC, wB, wCh, Ab.wTru, wNotT, wAndT, wOrT, wSl, wNo, wSome, wCall, wIsI, wIsI2, wStrip, wRev, gPop, wDNew, wDNewM, wSlW, gSlW, gAddM, gTimes, itemsA, wML, wYes, gIn, gInS, gIx, gEqv, gLt, gOrd, gAdd, gMinus, gInt, gNeg, gIs, gSl, gLen, gAbs, gTwo, gI1, gApp, gExt, gTupOf, gListOf, gListM, ims, asQ, asT, asL, dat, tru, at0, at1, at2, id_eq, AV.und, keyA, Ab.isNon, wipeS, List.set_cons_zero, List.set_cons_succ, wgSub, gSt, retA, List.take_length, takeSet, takeSet2, List.foldl_cons, List.foldl_nil, List.zip_cons_cons, List.zip_nil_right, keepS_nil, keepS_cons, keepO_none, keepO_im, keepO_wl, List.length_set, List.length_append, List.set_set, true_and, any_pr, snocAt, snocTake, ims_map, ims_mapF, atD, Option.isSome_some, Option.isSome_none, if_true, if_false, Bool.false_eq_true, ite_true, ite_false]
  refine ⟨by decide, i, n, _, _, rfl, ⟨c0, hm, hc0⟩, by omega, fun _ => rfl, rfl, by decide, by decide, fun x hx c hc => ?_⟩
  have hi : i < m.length := (List.getElem?_eq_some_iff.mp hm).1
  have okx : ∃ z : Str, x = .str z ∧ okS z ∧ z.length ≤ 10 ∧ ∀ c ∈ z.cps.toList, c < 128 := by
    simp only [List.mem_cons, List.not_mem_nil, or_false] at hx
    rcases hx with h | h | h | h | h <;> exact ⟨_, h, by decide +kernel, by decide +kernel, by decide +kernel⟩
  obtain ⟨z, rfl, oz, lz, pz⟩ := okx
  simp only [startA, List.map_cons, List.map_nil, List.length_cons, List.length_nil, List.replicate, List.cons_append, List.nil_append, Nat.reduceAdd, Nat.reduceSub, Nat.zero_add, Nat.sub_self, List.getElem?_cons_zero, List.getElem?_cons_succ, Option.map_some, wRet, wRetN, wSeq, wNext, wDrop, wIfS, wAsg, wgN, wgTup, wgCons, wgNil, wPar, wOr, wAnd, Ab.wNot, wIf, wOp, wUn, wCB, wCons, wNil, wTup, wLst, wLstM, wV, wC, wB, wCh, Ab.wTru, wNotT, wAndT, wOrT, wSl, wNo, wSome, wCall, wIsI, wIsI2, wStrip, wRev, gPop, wDNew, wDNewM, wSlW, gSlW, gAddM, gTimes, itemsA, wML, wYes, gIn, gInS, gIx, gEqv, gLt, gOrd, gAdd, gMinus, gInt, gNeg, gIs, gSl, gLen, gAbs, gTwo, gI1, gApp, gExt, gTupOf, gListOf, gListM, ims, asQ, asT, asL, dat, tru, at0, at1, at2, id_eq, AV.und, keyA, Ab.isNon, wipeS, List.set_cons_zero, List.set_cons_succ, wgSub, gSt, retA, List.take_length, takeSet, takeSet2, List.foldl_cons, List.foldl_nil, List.zip_cons_cons, List.zip_nil_right, keepS_nil, keepS_cons, keepO_none, keepO_im, keepO_wl, List.length_set, List.length_append, List.set_set, true_and, any_pr, snocAt, snocTake, ims_map, ims_mapF, atD, Option.isSome_some, Option.isSome_none, if_true, if_false, Bool.false_eq_true, ite_true, ite_false]
  refine ⟨i, n + 1, 26, rfl, ⟨c, by rw [List.getElem?_set_self hi], hc⟩, by omega, by decide, by decide, fun f c2 hf hc2 => ?_⟩
  simp only [startA, List.map_cons, List.map_nil, List.length_cons, List.length_nil, List.replicate, List.cons_append, List.nil_append, Nat.reduceAdd, Nat.reduceSub, Nat.zero_add, Nat.sub_self, List.getElem?_cons_zero, List.getElem?_cons_succ, Option.map_some, wRet, wRetN, wSeq, wNext, wDrop, wIfS, wAsg, wgN, wgTup, wgCons, wgNil, wPar, wOr, wAnd, Ab.wNot, wIf, wOp, wUn, wCB, wCons, wNil, wTup, wLst, wLstM, wV, wC, wB, wCh, Ab.wTru, wNotT, wAndT, wOrT, wSl, wNo, wSome, wCall, wIsI, wIsI2, wStrip, wRev, gPop, wDNew, wDNewM, wSlW, gSlW, gAddM, gTimes, itemsA, wML, wYes, gIn, gInS, gIx, gEqv, gLt, gOrd, gAdd, gMinus, gInt, gNeg, gIs, gSl, gLen, gAbs, gTwo, gI1, gApp, gExt, gTupOf, gListOf, gListM, ims, asQ, asT, asL, dat, tru, at0, at1, at2, id_eq, AV.und, keyA, Ab.isNon, wipeS, List.set_cons_zero, List.set_cons_succ, wgSub, gSt, retA, List.take_length, takeSet, takeSet2, List.foldl_cons, List.foldl_nil, List.zip_cons_cons, List.zip_nil_right, keepS_nil, keepS_cons, keepO_none, keepO_im, keepO_wl, List.length_set, List.length_append, List.set_set, true_and, any_pr, snocAt, snocTake, ims_map, ims_mapF, atD, Option.isSome_some, Option.isSome_none, if_true, if_false, Bool.false_eq_true, ite_true, ite_false, List.set_set, wLc, wLcs, wiR1]
  have len2 : (z ++ letter f 0).length ≤ 100 := by
    have : (z ++ letter f 0).length = z.length + 1 := by
      show (z.cps ++ (letter f 0).cps).size = _
      rw [Array.size_append]; rfl
    omega
  refine ⟨by decide, rfl, ⟨by omega, by omega⟩, by rw [sizeLine_eq]; simp [rngL]; omega, ?_⟩
  unfold rngL
  refine lc_map (List.range (k : Int).toNat) _ (fun a => some (.im (.str (z ++ letter f a)))) trivial (by simp) (fun a ha Kt hk' => ?_) (fun a _ y hy => by cases hy; rfl) ?_
  · have ha26 : a < 26 := by have := List.mem_range.mp ha; omega
    have em : ((f : Int) + 5 * (0 + (a : Nat))).fmod 26 = ((f + 5 * a) % 26 : Nat) := by rw [Int.fmod_eq_emod_of_nonneg _ (by decide)]; omega
    simp only [startA, List.map_cons, List.map_nil, List.length_cons, List.length_nil, List.replicate, List.cons_append, List.nil_append, Nat.reduceAdd, Nat.reduceSub, Nat.zero_add, Nat.sub_self, List.getElem?_cons_zero, List.getElem?_cons_succ, Option.map_some, wRet, wRetN, wSeq, wNext, wDrop, wIfS, wAsg, wgN, wgTup, wgCons, wgNil, wPar, wOr, wAnd, Ab.wNot, wIf, wOp, wUn, wCB, wCons, wNil, wTup, wLst, wLstM, wV, wC, wB, wCh, Ab.wTru, wNotT, wAndT, wOrT, wSl, wNo, wSome, wCall, wIsI, wIsI2, wStrip, wRev, gPop, wDNew, wDNewM, wSlW, gSlW, gAddM, gTimes, itemsA, wML, wYes, gIn, gInS, gIx, gEqv, gLt, gOrd, gAdd, gMinus, gInt, gNeg, gIs, gSl, gLen, gAbs, gTwo, gI1, gApp, gExt, gTupOf, gListOf, gListM, ims, asQ, asT, asL, dat, tru, at0, at1, at2, id_eq, AV.und, keyA, Ab.isNon, wipeS, List.set_cons_zero, List.set_cons_succ, wgSub, gSt, retA, List.take_length, takeSet, takeSet2, List.foldl_cons, List.foldl_nil, List.zip_cons_cons, List.zip_nil_right, keepS_nil, keepS_cons, keepO_none, keepO_im, keepO_wl, List.length_set, List.length_append, List.set_set, true_and, any_pr, snocAt, snocTake, ims_map, ims_mapF, atD, Option.isSome_some, Option.isSome_none, if_true, if_false, Bool.false_eq_true, ite_true, ite_false, turnL, em]
    refine ⟨.inl ⟨by omega, by omega⟩, by decide, ?_⟩
    rw [letter_at _ (Nat.mod_lt _ (by decide))]
    simp only [startA, List.map_cons, List.map_nil, List.length_cons, List.length_nil, List.replicate, List.cons_append, List.nil_append, Nat.reduceAdd, Nat.reduceSub, Nat.zero_add, Nat.sub_self, List.getElem?_cons_zero, List.getElem?_cons_succ, Option.map_some, wRet, wRetN, wSeq, wNext, wDrop, wIfS, wAsg, wgN, wgTup, wgCons, wgNil, wPar, wOr, wAnd, Ab.wNot, wIf, wOp, wUn, wCB, wCons, wNil, wTup, wLst, wLstM, wV, wC, wB, wCh, Ab.wTru, wNotT, wAndT, wOrT, wSl, wNo, wSome, wCall, wIsI, wIsI2, wStrip, wRev, gPop, wDNew, wDNewM, wSlW, gSlW, gAddM, gTimes, itemsA, wML, wYes, gIn, gInS, gIx, gEqv, gLt, gOrd, gAdd, gMinus, gInt, gNeg, gIs, gSl, gLen, gAbs, gTwo, gI1, gApp, gExt, gTupOf, gListOf, gListM, ims, asQ, asT, asL, dat, tru, at0, at1, at2, id_eq, AV.und, keyA, Ab.isNon, wipeS, List.set_cons_zero, List.set_cons_succ, wgSub, gSt, retA, List.take_length, takeSet, takeSet2, List.foldl_cons, List.foldl_nil, List.zip_cons_cons, List.zip_nil_right, keepS_nil, keepS_cons, keepO_none, keepO_im, keepO_wl, List.length_set, List.length_append, List.set_set, true_and, any_pr, snocAt, snocTake, ims_map, ims_mapF, atD, Option.isSome_some, Option.isSome_none, if_true, if_false, Bool.false_eq_true, ite_true, ite_false]
    refine ⟨by decide, by rw [sizeLine_eq]; have : (⟨#[97 + (f + 5 * a) % 26]⟩ : Str).length = 1 := rfl; omega, hk'⟩
  · rw [List.filterMap_eq_map']
    rw [ims_mapF (fun a => PyData.str (z ++ letter f a))]
    have e : (List.range (k : Int).toNat).map (fun a => PyData.str (z ++ letter f a)) = (((List.range k).map fun a => z ++ letter f a)).map .str := by
      rw [List.map_map, Int.toNat_natCast]; rfl
    have nd : ((List.range k).map fun a => z ++ letter f a).Nodup := by
      unfold List.Nodup
      rw [List.pairwise_map]
      refine (List.nodup_range (n := k)).imp_of_mem fun {a b} h1 h2 n e => ?_
      have := List.mem_range.mp h1
      have := List.mem_range.mp h2
      exact n (letter_inj (by omega) (by omega) e)
    simp only [gSorted, asL, e, sort_strs]
    refine ⟨alike_strs _, sortable_strs _, shallow_strs _, ?_⟩
    have pm := List.mergeSort_perm ((List.range k).map fun a => z ++ letter f a) ordS
    refine ⟨by simp [AV.und], ?_⟩
    rw [List.take_of_length_le (by simp)]
    refine q _ _ (fun s hs => ?_) (asc_sort nd) (by rw [pm.length_eq]; simp) hc2
    obtain ⟨a, _, rfl⟩ := List.mem_map.mp (pm.mem_iff.mp hs)
    refine ⟨okS_app oz (letter_ok f a), fun c hc => ?_, ?_⟩
    · have e : (z ++ letter f a).cps.toList = z.cps.toList ++ (letter f a).cps.toList := Array.toList_append
      rw [e] at hc
      rcases List.mem_append.mp hc with h | h
      · exact pz c h
      · simp only [letter, List.mem_singleton] at h; omega
    · have : (z ++ letter f a).length = z.length + 1 := by
        show (z.cps ++ (letter f a).cps).size = _
        rw [Array.size_append]; rfl
      omega
end
end K14
end

section
set_option maxRecDepth 100000
set_option maxHeartbeats 4000000
namespace K14
open PySem PySem.Spec PyProof.Rows L2 Gd Ab
abbrev s_network : Stmt := topS 16
theorem sc_network : FnScope ["_law_deck_here", "_law_many", "_law_is_sided", "_law_services", "_law_talks", "_law_share", "_law_side", "_law_at", "_law_one", "_law_to", "_law_is_wanted", "_law_service"] ["_law_deck_here", "_law_many", "_law_is_sided"] (defScope s_network) := ⟨rfl, rfl, rfl, by decide +kernel, rfl, by decide +kernel, by decide +kernel⟩
section
variable {P : Program} {w : World} {K : PySem.W.Frag} {mg : Str → Option Value} {base : Heap} {t0 : Tok}
def aNetwork : ASp := fun ds m P _ => ∃ (i n k : Nat) (b : Bool), ds = [.mu i, .im (.int k), .im (.bool b)] ∧ Dk m i n ∧ n + 1000 < 1000000 ∧ k ≤ 26 ∧ ∀ ss ts c, NetV ss ts → ss.length = k → dkC (n + 1000) c → P (.im (netD ss ts)) (m.set i c)
theorem ok_network (hB : Bs mg t0) (D : Defd K mg "_law_network" s_network) (C_law_draw : Callee P w K mg base CX0 1 "_law_draw" ["_law_deck_here", "_law_many"] (lift aDraw)) (C_law_any : Callee P w K mg base CX0 2 "_law_any" ["_law_deck_here", "_law_items"] (lift aAny)) (C_law_names : Callee P w K mg base CX0 3 "_law_names" ["_law_deck_here", "_law_many"] (lift aNames)) : Callee P w K mg base CX0 4 "_law_network" ["_law_deck_here", "_law_many", "_law_is_sided"] (lift aNetwork) := by
  refine okA D sc_network (fun _ _ _ _ _ _ us hl => match us, hl with | [_, _, _], _ => rfl) (fun ds m Q EA ⟨_, _, _, _, e, _⟩ => by rw [e]; rfl) fun f cdv A outer s H E B hgu hr => ?_
  refine ⟨_, _, (ss_cons (s_par3 (fun e => ps_par3 (i := 3) (j := 4) (l := 5) (by rfl) sc_network.nd rfl rfl rfl (by decide) (by decide) (by decide) rfl rfl rfl e (by rfl)) (al_cons (ae_call C_law_names hgu (hr.mono (by omega)) (by rfl) pass0 (al_cons (ae_v (pv 0)) (al_cons (ae_v (pv 1)) al_nil))) (al_cons (ae_lstM al_nil) (al_cons (ae_call C_law_any hgu (hr.mono (by omega)) (by rfl) pass0 (al_cons (ae_v (pv 0)) (al_cons (ae_lst (al_cons ae_int (al_cons ae_int (al_cons ae_int (al_cons ae_int al_nil))))) al_nil))) al_nil))))
        (ss_cons (s_setLc (own := [("_law_service", 11)]) (g := (gName 11)) (i := 6) rfl sc_network.nd rfl rfl (sw_true rfl rfl rfl (by decide +kernel)) (ai_any (K := K) rfl (ae_v (pv 3))) (blkOk_by (N := ["_law_deck_here", "_law_many", "_law_is_sided", "_law_services", "_law_talks", "_law_share", "_law_side", "_law_at", "_law_one", "_law_to", "_law_is_wanted", "_law_service"]) (sc := defScope s_network) (by decide +kernel)) (fun _ _ _ _ _ => (g_name (pg_name (i := 11) sc_network.nd rfl (.inl rfl)))) (own_name (by decide)) (mono_name _) (fun _ _ _ _ _ => ts_nil) (fun _ _ _ _ _ => (ae_call C_law_draw hgu (hr.mono (by omega)) (by rfl) pass0 (al_cons (ae_v (pv 0)) (al_cons ae_int al_nil)))))
        (ss_cons (s_for PassesOwn.never rfl (ai_enum (K := K) rfl (by rfl) hB.enumerate (al_cons (ae_v (pv 3)) al_nil)) (g_tup (K := K) rfl rfl (gs_cons (g_name (pg_name (i := 7) sc_network.nd rfl (.inl rfl))) (gs_cons (g_name (pg_name (i := 8) sc_network.nd rfl (.inl rfl))) gs_nil))) (ss_one (s_for PassesOwn.never rfl (ai_r2 (by rfl) hB.range (al_cons (ae_op oa_add (ae_v (pv 7)) ae_int) (al_cons (ae_v (pv 1)) al_nil))) (g_name (pg_name (i := 9) sc_network.nd rfl (.inl rfl))) (ss_cons (s_set (i := 10) sc_network.nd rfl (.inl rfl) (ae_or (K := K) rfl (ae_not (K := K) rfl (ae_v (pv 2))) (ae_one (ae_cmp (oa_ne hr) (ae_ix hr (ae_v (pv 6)) (ae_v (pv 7)) (fun _ _ => rfl)) (ae_ix hr (ae_v (pv 6)) (ae_v (pv 9)) (fun _ _ => rfl)) (nomark _)))))
        (ss_one (s_if (AW.at (aw_and (at_tru (K := K) rfl (ae_v (pv 10))) (aw_and (at_cmp (oa_lt hr) (ae_callB ca_len (by rfl) hB.len PySem.boot_len (al_cons (ae_v (pv 4)) al_nil)) ae_int (nomark _)) (aw_and1 (at_cmp (oa_eq hr) (ae_call C_law_draw hgu (hr.mono (by omega)) (by rfl) pass0 (al_cons (ae_v (pv 0)) (al_cons (ae_v (pv 5)) al_nil))) ae_int (nomark _)))))) (ss_one (s_expr (ae_ml (K := K) PySem.F.plainAttrs_list PySem.F.slot_list_append PySem.F.type_list_append ma_append (ae_v (pv 4)) (al_cons (ae_tup (al_cons (ae_v (pv 8)) (al_cons (ae_ix hr (ae_v (pv 3)) (ae_v (pv 9)) (fun _ _ => rfl)) al_nil))) al_nil)))) ss_nil))))))
        (ss_one (s_ret (ae_tup (al_cons (ae_callTy (ca_tuple rfl) (by rfl) hB.tuple (by decide +kernel) (al_cons (ae_v (pv 3)) al_nil)) (al_cons (ae_callTy (ca_tuple rfl) (by rfl) hB.tuple (by decide +kernel) (al_cons (ae_v (pv 4)) al_nil)) al_nil)))))))), ?_⟩
  rintro _ m Q ⟨i, n, k, b, rfl, ⟨c0, hm, hc0⟩, hn, hk, q⟩
  have hi : i < m.length := (List.getElem?_eq_some_iff.mp hm).1
  refine wSeq_of fun N1 n1 => ?_
  simp only [startA, List.map_cons, List.map_nil, List.length_cons, List.length_nil, List.replicate, List.cons_append, List.nil_append, Nat.reduceAdd, Nat.reduceSub, Nat.zero_add, Nat.sub_self, List.getElem?_cons_zero, List.getElem?_cons_succ, Option.map_some, wRet, wRetN, wSeq, wNext, wDrop, wIfS, wAsg, wgN, wgTup, wgCons, wgNil, wPar, wOr, wAnd, Ab.wNot, wIf, wOp, wUn, wCB, wCons, wNil, wTup, wLst, wLstM, wV, wC, wB, wCh, Ab.wTru, wNotT, wAndT, wOrT, wSl, wNo, wSome, wCall, wIsI, wIsI2, wStrip, wRev, gPop, wDNew, wDNewM, wSlW, gSlW, gAddM, gTimes, itemsA, wML, wYes, gIn, gInS, gIx, gEqv, gLt, gOrd, gAdd, gMinus, gInt, gNeg, gIs, gSl, gLen, gAbs, gTwo, gI1, gApp, gExt, gTupOf, gListOf, gListM, ims, asQ, asT, asL, dat, tru, at0, at1, at2, id_eq, AV.und, keyA, Ab.isNon, wipeS, List.set_cons_zero, List.set_cons_succ, wgSub, gSt, retA, List.take_length, takeSet, takeSet2, List.foldl_cons, List.foldl_nil, List.zip_cons_cons, List.zip_nil_right, keepS_nil, keepS_cons, keepO_none, keepO_im, keepO_wl, List.length_set, List.length_append, List.set_set, true_and, any_pr, snocAt, snocTake, ims_map, ims_mapF, atD, Option.isSome_some, Option.isSome_none, if_true, if_false, Bool.false_eq_true, ite_true, ite_false]
  refine ⟨i, n, k, rfl, ⟨c0, hm, hc0⟩, by omega, hk, fun ss c1 oks asc hl hc1 => ?_⟩
  simp only [startA, List.map_cons, List.map_nil, List.length_cons, List.length_nil, List.replicate, List.cons_append, List.nil_append, Nat.reduceAdd, Nat.reduceSub, Nat.zero_add, Nat.sub_self, List.getElem?_cons_zero, List.getElem?_cons_succ, Option.map_some, wRet, wRetN, wSeq, wNext, wDrop, wIfS, wAsg, wgN, wgTup, wgCons, wgNil, wPar, wOr, wAnd, Ab.wNot, wIf, wOp, wUn, wCB, wCons, wNil, wTup, wLst, wLstM, wV, wC, wB, wCh, Ab.wTru, wNotT, wAndT, wOrT, wSl, wNo, wSome, wCall, wIsI, wIsI2, wStrip, wRev, gPop, wDNew, wDNewM, wSlW, gSlW, gAddM, gTimes, itemsA, wML, wYes, gIn, gInS, gIx, gEqv, gLt, gOrd, gAdd, gMinus, gInt, gNeg, gIs, gSl, gLen, gAbs, gTwo, gI1, gApp, gExt, gTupOf, gListOf, gListM, ims, asQ, asT, asL, dat, tru, at0, at1, at2, id_eq, AV.und, keyA, Ab.isNon, wipeS, List.set_cons_zero, List.set_cons_succ, wgSub, gSt, retA, List.take_length, takeSet, takeSet2, List.foldl_cons, List.foldl_nil, List.zip_cons_cons, List.zip_nil_right, keepS_nil, keepS_cons, keepO_none, keepO_im, keepO_wl, List.length_set, List.length_append, List.set_set, true_and, any_pr, snocAt, snocTake, ims_map, ims_mapF, atD, Option.isSome_some, Option.isSome_none, if_true, if_false, Bool.false_eq_true, ite_true, ite_false, setApp (show i < (m.set i _).length by simpa using hi)]
  refine ⟨by decide, by decide, i, n + 2, _, _, rfl, ⟨c1, by rw [getApp (by simpa using hi), getSet hi], hc1⟩, by omega, fun _ => rfl, rfl, by decide, by decide, fun x hx c2 hc2 => ?_⟩
  have okx : ∃ sh : Nat, x = .int sh ∧ 0 < sh ∧ sh < 7 := by
    simp only [List.mem_cons, List.not_mem_nil, or_false] at hx
    rcases hx with h | h | h | h <;> exact ⟨_, h, by decide, by decide⟩
  obtain ⟨sh, rfl, sh0, sh7⟩ := okx
  simp only [startA, List.map_cons, List.map_nil, List.length_cons, List.length_nil, List.replicate, List.cons_append, List.nil_append, Nat.reduceAdd, Nat.reduceSub, Nat.zero_add, Nat.sub_self, List.getElem?_cons_zero, List.getElem?_cons_succ, Option.map_some, wRet, wRetN, wSeq, wNext, wDrop, wIfS, wAsg, wgN, wgTup, wgCons, wgNil, wPar, wOr, wAnd, Ab.wNot, wIf, wOp, wUn, wCB, wCons, wNil, wTup, wLst, wLstM, wV, wC, wB, wCh, Ab.wTru, wNotT, wAndT, wOrT, wSl, wNo, wSome, wCall, wIsI, wIsI2, wStrip, wRev, gPop, wDNew, wDNewM, wSlW, gSlW, gAddM, gTimes, itemsA, wML, wYes, gIn, gInS, gIx, gEqv, gLt, gOrd, gAdd, gMinus, gInt, gNeg, gIs, gSl, gLen, gAbs, gTwo, gI1, gApp, gExt, gTupOf, gListOf, gListM, ims, asQ, asT, asL, dat, tru, at0, at1, at2, id_eq, AV.und, keyA, Ab.isNon, wipeS, List.set_cons_zero, List.set_cons_succ, wgSub, gSt, retA, List.take_length, takeSet, takeSet2, List.foldl_cons, List.foldl_nil, List.zip_cons_cons, List.zip_nil_right, keepS_nil, keepS_cons, keepO_none, keepO_im, keepO_wl, List.length_set, List.length_append, List.set_set, true_and, any_pr, snocAt, snocTake, ims_map, ims_mapF, atD, Option.isSome_some, Option.isSome_none, if_true, if_false, Bool.false_eq_true, ite_true, ite_false, setApp (show i < (m.set i _).length by simpa using hi)]
  refine n1 _ _ (wSeq_of fun N2 n2 => ?_)
  clear n1 N1 hx
  simp only [startA, List.map_cons, List.map_nil, List.length_cons, List.length_nil, List.replicate, List.cons_append, List.nil_append, Nat.reduceAdd, Nat.reduceSub, Nat.zero_add, Nat.sub_self, List.getElem?_cons_zero, List.getElem?_cons_succ, Option.map_some, wRet, wRetN, wSeq, wNext, wDrop, wIfS, wAsg, wgN, wgTup, wgCons, wgNil, wPar, wOr, wAnd, Ab.wNot, wIf, wOp, wUn, wCB, wCons, wNil, wTup, wLst, wLstM, wV, wC, wB, wCh, Ab.wTru, wNotT, wAndT, wOrT, wSl, wNo, wSome, wCall, wIsI, wIsI2, wStrip, wRev, gPop, wDNew, wDNewM, wSlW, gSlW, gAddM, gTimes, itemsA, wML, wYes, gIn, gInS, gIx, gEqv, gLt, gOrd, gAdd, gMinus, gInt, gNeg, gIs, gSl, gLen, gAbs, gTwo, gI1, gApp, gExt, gTupOf, gListOf, gListM, ims, asQ, asT, asL, dat, tru, at0, at1, at2, id_eq, AV.und, keyA, Ab.isNon, wipeS, List.set_cons_zero, List.set_cons_succ, wgSub, gSt, retA, List.take_length, takeSet, takeSet2, List.foldl_cons, List.foldl_nil, List.zip_cons_cons, List.zip_nil_right, keepS_nil, keepS_cons, keepO_none, keepO_im, keepO_wl, List.length_set, List.length_append, List.set_set, true_and, any_pr, snocAt, snocTake, ims_map, ims_mapF, atD, Option.isSome_some, Option.isSome_none, if_true, if_false, Bool.false_eq_true, ite_true, ite_false, wLc, wLcs, wiAny]
  refine ⟨by rw [sizeLine_eq]; simp; omega, ?_⟩
  refine lc_inv (acc := []) (P := fun ys m2 => match ims ys with | some xs => N2 [some (.mu i), some (.im (.int k)), some (.im (.bool b)), some (.wl (ss.map .str)), some (.mu m.length), some (.im (.int sh)), some (.wl xs), none, none, none, none, none] m2 | none => False)
    (fun xs acc m' => ∃ (c : Cell) (sd : List Int), m' = m.set i c ++ [.lst []] ∧ acc = (sd.map PyData.int).map .im ∧ sd.length + xs.length = k ∧ dkC (n + 3 + sd.length) c) (fun _ _ _ _ => trivial) (fun x r acc m' Kt ⟨c, sd, em, ea, el, hc⟩ nx => ?_) (fun acc m' ⟨c, sd, em, ea, el, hc⟩ => ?_) ⟨c2, [], rfl, rfl, by simp [hl], hc2⟩
  rotate_left
  · subst em ea
    simp only [List.length_cons] at el
    simp only [startA, List.map_cons, List.map_nil, List.length_cons, List.length_nil, List.replicate, List.cons_append, List.nil_append, Nat.reduceAdd, Nat.reduceSub, Nat.zero_add, Nat.sub_self, List.getElem?_cons_zero, List.getElem?_cons_succ, Option.map_some, wRet, wRetN, wSeq, wNext, wDrop, wIfS, wAsg, wgN, wgTup, wgCons, wgNil, wPar, wOr, wAnd, Ab.wNot, wIf, wOp, wUn, wCB, wCons, wNil, wTup, wLst, wLstM, wV, wC, wB, wCh, Ab.wTru, wNotT, wAndT, wOrT, wSl, wNo, wSome, wCall, wIsI, wIsI2, wStrip, wRev, gPop, wDNew, wDNewM, wSlW, gSlW, gAddM, gTimes, itemsA, wML, wYes, gIn, gInS, gIx, gEqv, gLt, gOrd, gAdd, gMinus, gInt, gNeg, gIs, gSl, gLen, gAbs, gTwo, gI1, gApp, gExt, gTupOf, gListOf, gListM, ims, asQ, asT, asL, dat, tru, at0, at1, at2, id_eq, AV.und, keyA, Ab.isNon, wipeS, List.set_cons_zero, List.set_cons_succ, wgSub, gSt, retA, List.take_length, takeSet, takeSet2, List.foldl_cons, List.foldl_nil, List.zip_cons_cons, List.zip_nil_right, keepS_nil, keepS_cons, keepO_none, keepO_im, keepO_wl, List.length_set, List.length_append, List.set_set, true_and, any_pr, snocAt, snocTake, ims_map, ims_mapF, atD, Option.isSome_some, Option.isSome_none, if_true, if_false, Bool.false_eq_true, ite_true, ite_false, turnL]
    refine ⟨i, n + 3 + sd.length, 2, rfl, ⟨c, by rw [getApp (by simpa using hi), getSet hi], hc⟩, by omega, by decide, by decide, fun y c' hy hc' => ?_⟩
    simp only [startA, List.map_cons, List.map_nil, List.length_cons, List.length_nil, List.replicate, List.cons_append, List.nil_append, Nat.reduceAdd, Nat.reduceSub, Nat.zero_add, Nat.sub_self, List.getElem?_cons_zero, List.getElem?_cons_succ, Option.map_some, wRet, wRetN, wSeq, wNext, wDrop, wIfS, wAsg, wgN, wgTup, wgCons, wgNil, wPar, wOr, wAnd, Ab.wNot, wIf, wOp, wUn, wCB, wCons, wNil, wTup, wLst, wLstM, wV, wC, wB, wCh, Ab.wTru, wNotT, wAndT, wOrT, wSl, wNo, wSome, wCall, wIsI, wIsI2, wStrip, wRev, gPop, wDNew, wDNewM, wSlW, gSlW, gAddM, gTimes, itemsA, wML, wYes, gIn, gInS, gIx, gEqv, gLt, gOrd, gAdd, gMinus, gInt, gNeg, gIs, gSl, gLen, gAbs, gTwo, gI1, gApp, gExt, gTupOf, gListOf, gListM, ims, asQ, asT, asL, dat, tru, at0, at1, at2, id_eq, AV.und, keyA, Ab.isNon, wipeS, List.set_cons_zero, List.set_cons_succ, wgSub, gSt, retA, List.take_length, takeSet, takeSet2, List.foldl_cons, List.foldl_nil, List.zip_cons_cons, List.zip_nil_right, keepS_nil, keepS_cons, keepO_none, keepO_im, keepO_wl, List.length_set, List.length_append, List.set_set, true_and, any_pr, snocAt, snocTake, ims_map, ims_mapF, atD, Option.isSome_some, Option.isSome_none, if_true, if_false, Bool.false_eq_true, ite_true, ite_false, setApp (show i < (m.set i _).length by simpa using hi)]
    refine nx _ _ (fun z hz => by cases hz; rfl) ⟨c', sd ++ [(y : Int)], ?_, ?_, ?_, ?_⟩
    · exact List.take_of_length_le (by simp)
    · simp
    · simp only [List.length_append, List.length_cons, List.length_nil]; omega
    · simp only [List.length_append, List.length_cons, List.length_nil]; exact hc'
  subst em ea
  rw [ims_map]
  have ls : sd.length = k := by simpa using el
  rw [ls] at hc
  refine n2 _ _ (wSeq_of fun N3 n3 => ?_)
  clear n2 N2
  refine wFor_of fun B1 b1 => ?_
  simp only [startA, List.map_cons, List.map_nil, List.length_cons, List.length_nil, List.replicate, List.cons_append, List.nil_append, Nat.reduceAdd, Nat.reduceSub, Nat.zero_add, Nat.sub_self, List.getElem?_cons_zero, List.getElem?_cons_succ, Option.map_some, wRet, wRetN, wSeq, wNext, wDrop, wIfS, wAsg, wgN, wgTup, wgCons, wgNil, wPar, wOr, wAnd, Ab.wNot, wIf, wOp, wUn, wCB, wCons, wNil, wTup, wLst, wLstM, wV, wC, wB, wCh, Ab.wTru, wNotT, wAndT, wOrT, wSl, wNo, wSome, wCall, wIsI, wIsI2, wStrip, wRev, gPop, wDNew, wDNewM, wSlW, gSlW, gAddM, gTimes, itemsA, wML, wYes, gIn, gInS, gIx, gEqv, gLt, gOrd, gAdd, gMinus, gInt, gNeg, gIs, gSl, gLen, gAbs, gTwo, gI1, gApp, gExt, gTupOf, gListOf, gListM, ims, asQ, asT, asL, dat, tru, at0, at1, at2, id_eq, AV.und, keyA, Ab.isNon, wipeS, List.set_cons_zero, List.set_cons_succ, wgSub, gSt, retA, List.take_length, takeSet, takeSet2, List.foldl_cons, List.foldl_nil, List.zip_cons_cons, List.zip_nil_right, keepS_nil, keepS_cons, keepO_none, keepO_im, keepO_wl, List.length_set, List.length_append, List.set_set, true_and, any_pr, snocAt, snocTake, ims_map, ims_mapF, atD, Option.isSome_some, Option.isSome_none, if_true, if_false, Bool.false_eq_true, ite_true, ite_false, wiEnum]
  refine for_inv (fun xs ρ m' => ∃ (j cnt : Nat) (c : Cell) (ts : List (Str × Str)) (o7 o8 o9 o10 : Option AV), xs = enumF j ((ss.drop j).map .str) ∧ j ≤ k ∧ cnt ≤ j * k ∧ m' = m.set i c ++ [.lst (ts.map fun t => .im (prD t))] ∧ dkC (n + 3 + k + cnt) c ∧ ts.length ≤ 40 ∧ (∀ t ∈ ts, t.1 ∈ ss ∧ t.2 ∈ ss ∧ sLt t.1 t.2) ∧
      ρ = [some (.mu i), some (.im (.int k)), some (.im (.bool b)), some (.wl (ss.map .str)), some (.mu m.length), some (.im (.int sh)), some (.wl (sd.map .int)), o7, o8, o9, o10, none] ∧ Loose o7 ∧ Loose o8 ∧ Loose o9 ∧ Loose o10) (fun _ _ _ _ => trivial) ?_ ?_ ?_
  · rintro x r ρ m' nx ⟨j, cnt, c, ts, o7, o8, o9, o10, ex, hj, hcnt, rfl, hc, hts, hT, rfl, l7, l8, l9, l10⟩ next
    have hj2 : j < k := by
      rcases Nat.lt_or_ge j k with h | h
      · exact h
      · rw [List.drop_of_length_le (by omega)] at ex; cases ex
    rw [List.drop_eq_getElem_cons (by omega : j < ss.length)] at ex
    simp only [List.map_cons, enumF, List.cons.injEq] at ex
    obtain ⟨rfl, rfl⟩ := ex
    refine b1 _ _ _ _ ?_
    simp only [startA, List.map_cons, List.map_nil, List.length_cons, List.length_nil, List.replicate, List.cons_append, List.nil_append, Nat.reduceAdd, Nat.reduceSub, Nat.zero_add, Nat.sub_self, List.getElem?_cons_zero, List.getElem?_cons_succ, Option.map_some, wRet, wRetN, wSeq, wNext, wDrop, wIfS, wAsg, wgN, wgTup, wgCons, wgNil, wPar, wOr, wAnd, Ab.wNot, wIf, wOp, wUn, wCB, wCons, wNil, wTup, wLst, wLstM, wV, wC, wB, wCh, Ab.wTru, wNotT, wAndT, wOrT, wSl, wNo, wSome, wCall, wIsI, wIsI2, wStrip, wRev, gPop, wDNew, wDNewM, wSlW, gSlW, gAddM, gTimes, itemsA, wML, wYes, gIn, gInS, gIx, gEqv, gLt, gOrd, gAdd, gMinus, gInt, gNeg, gIs, gSl, gLen, gAbs, gTwo, gI1, gApp, gExt, gTupOf, gListOf, gListM, ims, asQ, asT, asL, dat, tru, at0, at1, at2, id_eq, AV.und, keyA, Ab.isNon, wipeS, List.set_cons_zero, List.set_cons_succ, wgSub, gSt, retA, List.take_length, takeSet, takeSet2, List.foldl_cons, List.foldl_nil, List.zip_cons_cons, List.zip_nil_right, keepS_nil, keepS_cons, keepO_none, keepO_im, keepO_wl, List.length_set, List.length_append, List.set_set, true_and, any_pr, snocAt, snocTake, ims_map, ims_mapF, atD, Option.isSome_some, Option.isSome_none, if_true, if_false, Bool.false_eq_true, ite_true, ite_false, l7 _, l8 _, l9 _, l10 _]
    refine ⟨rfl, wFor_of fun B2 b2 => ?_⟩
    simp only [startA, List.map_cons, List.map_nil, List.length_cons, List.length_nil, List.replicate, List.cons_append, List.nil_append, Nat.reduceAdd, Nat.reduceSub, Nat.zero_add, Nat.sub_self, List.getElem?_cons_zero, List.getElem?_cons_succ, Option.map_some, wRet, wRetN, wSeq, wNext, wDrop, wIfS, wAsg, wgN, wgTup, wgCons, wgNil, wPar, wOr, wAnd, Ab.wNot, wIf, wOp, wUn, wCB, wCons, wNil, wTup, wLst, wLstM, wV, wC, wB, wCh, Ab.wTru, wNotT, wAndT, wOrT, wSl, wNo, wSome, wCall, wIsI, wIsI2, wStrip, wRev, gPop, wDNew, wDNewM, wSlW, gSlW, gAddM, gTimes, itemsA, wML, wYes, gIn, gInS, gIx, gEqv, gLt, gOrd, gAdd, gMinus, gInt, gNeg, gIs, gSl, gLen, gAbs, gTwo, gI1, gApp, gExt, gTupOf, gListOf, gListM, ims, asQ, asT, asL, dat, tru, at0, at1, at2, id_eq, AV.und, keyA, Ab.isNon, wipeS, List.set_cons_zero, List.set_cons_succ, wgSub, gSt, retA, List.take_length, takeSet, takeSet2, List.foldl_cons, List.foldl_nil, List.zip_cons_cons, List.zip_nil_right, keepS_nil, keepS_cons, keepO_none, keepO_im, keepO_wl, List.length_set, List.length_append, List.set_set, true_and, any_pr, snocAt, snocTake, ims_map, ims_mapF, atD, Option.isSome_some, Option.isSome_none, if_true, if_false, Bool.false_eq_true, ite_true, ite_false, wiR2]
    refine ⟨⟨by omega, by omega⟩, ⟨by omega, by omega⟩, ?_⟩
    unfold rngL
    refine for_inv (fun xs ρ m' => ∃ (l : List Nat) (cnt : Nat) (c : Cell) (ts : List (Str × Str)) (o9 o10 : Option AV), xs = l.map (fun i => .im (.int ((j : Int) + 1 + (i : Nat)))) ∧ (∀ i ∈ l, i < ((k : Int) - ((j : Int) + 1)).toNat) ∧ cnt + l.length ≤ j * k + k ∧ m' = m.set i c ++ [.lst (ts.map fun t => .im (prD t))] ∧ dkC (n + 3 + k + cnt) c ∧ ts.length ≤ 40 ∧ (∀ t ∈ ts, t.1 ∈ ss ∧ t.2 ∈ ss ∧ sLt t.1 t.2) ∧
        ρ = [some (.mu i), some (.im (.int k)), some (.im (.bool b)), some (.wl (ss.map .str)), some (.mu m.length), some (.im (.int sh)), some (.wl (sd.map .int)), some (.im (.int j)), some (.im (.str ss[j])), o9, o10, none] ∧ Loose o9 ∧ Loose o10) (fun _ _ _ _ => trivial) ?_ ?_ ?_
    · rintro x r ρ m' nx2 ⟨l, cnt, c, ts, o9, o10, ex, hl2, hcnt, rfl, hc, hts, hT, rfl, l9, l10⟩ next2
      obtain ⟨to, l, rfl, rfl, rfl⟩ : ∃ t l', l = t :: l' ∧ x = .im (.int ((j : Int) + 1 + (t : Nat))) ∧ r = l'.map (fun i => .im (.int ((j : Int) + 1 + (i : Nat)))) := by
        cases l with
        | nil => cases ex
        | cons t l' => simp only [List.map_cons, List.cons.injEq] at ex; exact ⟨t, l', rfl, ex.1, ex.2⟩
      have hto := hl2 to List.mem_cons_self
      refine b2 _ _ _ _ ?_
      refine wSeq_of fun N4 n4 => ?_
      have e1 : L2.atI (sd.map PyData.int) (j : Int) = some (.int sd[j]) := atI_nat (by simp [ls, hj2])
      have e2 : L2.atI (sd.map PyData.int) ((j : Int) + 1 + (to : Nat)) = some (.int (sd[j + 1 + to]'(by omega))) := by
        rw [show (j : Int) + 1 + (to : Nat) = ((j + 1 + to : Nat) : Int) by omega]
        exact atI_nat (by simp [ls])
      have e3 : L2.atI (ss.map PyData.str) ((j : Int) + 1 + (to : Nat)) = some (.str (ss[j + 1 + to]'(by omega))) := by
        rw [show (j : Int) + 1 + (to : Nat) = ((j + 1 + to : Nat) : Int) by omega]
        exact atI_nat (by simp)
      have bd : j * k ≤ 26 * 26 := Nat.mul_le_mul (by omega) hk
      have hlen : cnt + (l.length + 1) ≤ j * k + k := by simpa using hcnt
      have wanted : ∀ v : Bool, N4 [some (.mu i), some (.im (.int k)), some (.im (.bool b)), some (.wl (ss.map .str)), some (.mu m.length), some (.im (.int sh)), some (.wl (sd.map .int)), some (.im (.int j)), some (.im (.str ss[j])), some (.im (.int ((j : Int) + 1 + (to : Nat)))), some (.im (.bool v)), none] (m.set i c ++ [.lst (ts.map fun t => .im (prD t))]) := fun v => by
        have stay : ∀ c' cnt', dkC (n + 3 + k + cnt') c' → cnt' ≤ cnt + 1 → nx2 [some (.mu i), some (.im (.int k)), some (.im (.bool b)), some (.wl (ss.map .str)), some (.mu m.length), some (.im (.int sh)), some (.wl (sd.map .int)), some (.im (.int j)), some (.im (.str ss[j])), some (.im (.int ((j : Int) + 1 + (to : Nat)))), some (.im (.bool v)), none] (m.set i c' ++ [.lst (ts.map fun t => .im (prD t))]) := fun c' cnt' h1 h2 => next2 _ _ ⟨l, cnt', c', ts, _, _, rfl, fun i hi => hl2 i (List.mem_cons_of_mem _ hi), by omega, List.take_of_length_le (by simp), h1, hts, hT, by simp only [startA, List.map_cons, List.map_nil, List.length_cons, List.length_nil, List.replicate, List.cons_append, List.nil_append, Nat.reduceAdd, Nat.reduceSub, Nat.zero_add, Nat.sub_self, List.getElem?_cons_zero, List.getElem?_cons_succ, Option.map_some, wRet, wRetN, wSeq, wNext, wDrop, wIfS, wAsg, wgN, wgTup, wgCons, wgNil, wPar, wOr, wAnd, Ab.wNot, wIf, wOp, wUn, wCB, wCons, wNil, wTup, wLst, wLstM, wV, wC, wB, wCh, Ab.wTru, wNotT, wAndT, wOrT, wSl, wNo, wSome, wCall, wIsI, wIsI2, wStrip, wRev, gPop, wDNew, wDNewM, wSlW, gSlW, gAddM, gTimes, itemsA, wML, wYes, gIn, gInS, gIx, gEqv, gLt, gOrd, gAdd, gMinus, gInt, gNeg, gIs, gSl, gLen, gAbs, gTwo, gI1, gApp, gExt, gTupOf, gListOf, gListM, ims, asQ, asT, asL, dat, tru, at0, at1, at2, id_eq, AV.und, keyA, Ab.isNon, wipeS, List.set_cons_zero, List.set_cons_succ, wgSub, gSt, retA, List.take_length, takeSet, takeSet2, List.foldl_cons, List.foldl_nil, List.zip_cons_cons, List.zip_nil_right, keepS_nil, keepS_cons, keepO_none, keepO_im, keepO_wl, List.length_set, List.length_append, List.set_set, true_and, any_pr, snocAt, snocTake, ims_map, ims_mapF, atD, Option.isSome_some, Option.isSome_none, if_true, if_false, Bool.false_eq_true, ite_true, ite_false, keepO_mu (show i < m.length + 1 by omega), keepO_mu (show m.length < m.length + 1 by omega)] <;> rfl, Loose.im, Loose.im⟩
        refine n4 _ _ ?_
        simp only [startA, List.map_cons, List.map_nil, List.length_cons, List.length_nil, List.replicate, List.cons_append, List.nil_append, Nat.reduceAdd, Nat.reduceSub, Nat.zero_add, Nat.sub_self, List.getElem?_cons_zero, List.getElem?_cons_succ, Option.map_some, wRet, wRetN, wSeq, wNext, wDrop, wIfS, wAsg, wgN, wgTup, wgCons, wgNil, wPar, wOr, wAnd, Ab.wNot, wIf, wOp, wUn, wCB, wCons, wNil, wTup, wLst, wLstM, wV, wC, wB, wCh, Ab.wTru, wNotT, wAndT, wOrT, wSl, wNo, wSome, wCall, wIsI, wIsI2, wStrip, wRev, gPop, wDNew, wDNewM, wSlW, gSlW, gAddM, gTimes, itemsA, wML, wYes, gIn, gInS, gIx, gEqv, gLt, gOrd, gAdd, gMinus, gInt, gNeg, gIs, gSl, gLen, gAbs, gTwo, gI1, gApp, gExt, gTupOf, gListOf, gListM, ims, asQ, asT, asL, dat, tru, at0, at1, at2, id_eq, AV.und, keyA, Ab.isNon, wipeS, List.set_cons_zero, List.set_cons_succ, wgSub, gSt, retA, List.take_length, takeSet, takeSet2, List.foldl_cons, List.foldl_nil, List.zip_cons_cons, List.zip_nil_right, keepS_nil, keepS_cons, keepO_none, keepO_im, keepO_wl, List.length_set, List.length_append, List.set_set, true_and, any_pr, snocAt, snocTake, ims_map, ims_mapF, atD, Option.isSome_some, Option.isSome_none, if_true, if_false, Bool.false_eq_true, ite_true, ite_false, getEnd (show m.length = (m.set i c).length by simp)]
        cases v with
        | false => simp only [startA, List.map_cons, List.map_nil, List.length_cons, List.length_nil, List.replicate, List.cons_append, List.nil_append, Nat.reduceAdd, Nat.reduceSub, Nat.zero_add, Nat.sub_self, List.getElem?_cons_zero, List.getElem?_cons_succ, Option.map_some, wRet, wRetN, wSeq, wNext, wDrop, wIfS, wAsg, wgN, wgTup, wgCons, wgNil, wPar, wOr, wAnd, Ab.wNot, wIf, wOp, wUn, wCB, wCons, wNil, wTup, wLst, wLstM, wV, wC, wB, wCh, Ab.wTru, wNotT, wAndT, wOrT, wSl, wNo, wSome, wCall, wIsI, wIsI2, wStrip, wRev, gPop, wDNew, wDNewM, wSlW, gSlW, gAddM, gTimes, itemsA, wML, wYes, gIn, gInS, gIx, gEqv, gLt, gOrd, gAdd, gMinus, gInt, gNeg, gIs, gSl, gLen, gAbs, gTwo, gI1, gApp, gExt, gTupOf, gListOf, gListM, ims, asQ, asT, asL, dat, tru, at0, at1, at2, id_eq, AV.und, keyA, Ab.isNon, wipeS, List.set_cons_zero, List.set_cons_succ, wgSub, gSt, retA, List.take_length, takeSet, takeSet2, List.foldl_cons, List.foldl_nil, List.zip_cons_cons, List.zip_nil_right, keepS_nil, keepS_cons, keepO_none, keepO_im, keepO_wl, List.length_set, List.length_append, List.set_set, true_and, any_pr, snocAt, snocTake, ims_map, ims_mapF, atD, Option.isSome_some, Option.isSome_none, if_true, if_false, Bool.false_eq_true, ite_true, ite_false]; exact stay c cnt hc (by omega)
        | true =>
          simp only [startA, List.map_cons, List.map_nil, List.length_cons, List.length_nil, List.replicate, List.cons_append, List.nil_append, Nat.reduceAdd, Nat.reduceSub, Nat.zero_add, Nat.sub_self, List.getElem?_cons_zero, List.getElem?_cons_succ, Option.map_some, wRet, wRetN, wSeq, wNext, wDrop, wIfS, wAsg, wgN, wgTup, wgCons, wgNil, wPar, wOr, wAnd, Ab.wNot, wIf, wOp, wUn, wCB, wCons, wNil, wTup, wLst, wLstM, wV, wC, wB, wCh, Ab.wTru, wNotT, wAndT, wOrT, wSl, wNo, wSome, wCall, wIsI, wIsI2, wStrip, wRev, gPop, wDNew, wDNewM, wSlW, gSlW, gAddM, gTimes, itemsA, wML, wYes, gIn, gInS, gIx, gEqv, gLt, gOrd, gAdd, gMinus, gInt, gNeg, gIs, gSl, gLen, gAbs, gTwo, gI1, gApp, gExt, gTupOf, gListOf, gListM, ims, asQ, asT, asL, dat, tru, at0, at1, at2, id_eq, AV.und, keyA, Ab.isNon, wipeS, List.set_cons_zero, List.set_cons_succ, wgSub, gSt, retA, List.take_length, takeSet, takeSet2, List.foldl_cons, List.foldl_nil, List.zip_cons_cons, List.zip_nil_right, keepS_nil, keepS_cons, keepO_none, keepO_im, keepO_wl, List.length_set, List.length_append, List.set_set, true_and, any_pr, snocAt, snocTake, ims_map, ims_mapF, atD, Option.isSome_some, Option.isSome_none, if_true, if_false, Bool.false_eq_true, ite_true, ite_false]
          by_cases h40 : ts.length < 40
          · have d40 : decide ((ts.length : Int) < 40) = true := by simp; omega
            simp only [startA, List.map_cons, List.map_nil, List.length_cons, List.length_nil, List.replicate, List.cons_append, List.nil_append, Nat.reduceAdd, Nat.reduceSub, Nat.zero_add, Nat.sub_self, List.getElem?_cons_zero, List.getElem?_cons_succ, Option.map_some, wRet, wRetN, wSeq, wNext, wDrop, wIfS, wAsg, wgN, wgTup, wgCons, wgNil, wPar, wOr, wAnd, Ab.wNot, wIf, wOp, wUn, wCB, wCons, wNil, wTup, wLst, wLstM, wV, wC, wB, wCh, Ab.wTru, wNotT, wAndT, wOrT, wSl, wNo, wSome, wCall, wIsI, wIsI2, wStrip, wRev, gPop, wDNew, wDNewM, wSlW, gSlW, gAddM, gTimes, itemsA, wML, wYes, gIn, gInS, gIx, gEqv, gLt, gOrd, gAdd, gMinus, gInt, gNeg, gIs, gSl, gLen, gAbs, gTwo, gI1, gApp, gExt, gTupOf, gListOf, gListM, ims, asQ, asT, asL, dat, tru, at0, at1, at2, id_eq, AV.und, keyA, Ab.isNon, wipeS, List.set_cons_zero, List.set_cons_succ, wgSub, gSt, retA, List.take_length, takeSet, takeSet2, List.foldl_cons, List.foldl_nil, List.zip_cons_cons, List.zip_nil_right, keepS_nil, keepS_cons, keepO_none, keepO_im, keepO_wl, List.length_set, List.length_append, List.set_set, true_and, any_pr, snocAt, snocTake, ims_map, ims_mapF, atD, Option.isSome_some, Option.isSome_none, if_true, if_false, Bool.false_eq_true, ite_true, ite_false, List.length_map, d40]
            refine ⟨i, n + 3 + k + cnt, sh, rfl, ⟨c, by rw [getApp (by simpa using hi), getSet hi], hc⟩, by omega, by omega, by omega, fun y c' hy hc' => ?_⟩
            simp only [startA, List.map_cons, List.map_nil, List.length_cons, List.length_nil, List.replicate, List.cons_append, List.nil_append, Nat.reduceAdd, Nat.reduceSub, Nat.zero_add, Nat.sub_self, List.getElem?_cons_zero, List.getElem?_cons_succ, Option.map_some, wRet, wRetN, wSeq, wNext, wDrop, wIfS, wAsg, wgN, wgTup, wgCons, wgNil, wPar, wOr, wAnd, Ab.wNot, wIf, wOp, wUn, wCB, wCons, wNil, wTup, wLst, wLstM, wV, wC, wB, wCh, Ab.wTru, wNotT, wAndT, wOrT, wSl, wNo, wSome, wCall, wIsI, wIsI2, wStrip, wRev, gPop, wDNew, wDNewM, wSlW, gSlW, gAddM, gTimes, itemsA, wML, wYes, gIn, gInS, gIx, gEqv, gLt, gOrd, gAdd, gMinus, gInt, gNeg, gIs, gSl, gLen, gAbs, gTwo, gI1, gApp, gExt, gTupOf, gListOf, gListM, ims, asQ, asT, asL, dat, tru, at0, at1, at2, id_eq, AV.und, keyA, Ab.isNon, wipeS, List.set_cons_zero, List.set_cons_succ, wgSub, gSt, retA, List.take_length, takeSet, takeSet2, List.foldl_cons, List.foldl_nil, List.zip_cons_cons, List.zip_nil_right, keepS_nil, keepS_cons, keepO_none, keepO_im, keepO_wl, List.length_set, List.length_append, List.set_set, true_and, any_pr, snocAt, snocTake, ims_map, ims_mapF, atD, Option.isSome_some, Option.isSome_none, if_true, if_false, Bool.false_eq_true, ite_true, ite_false, setApp (show i < (m.set i _).length by simpa using hi)]
            cases hz : decide ((y : Int) = 0) with
            | false => simp only [startA, List.map_cons, List.map_nil, List.length_cons, List.length_nil, List.replicate, List.cons_append, List.nil_append, Nat.reduceAdd, Nat.reduceSub, Nat.zero_add, Nat.sub_self, List.getElem?_cons_zero, List.getElem?_cons_succ, Option.map_some, wRet, wRetN, wSeq, wNext, wDrop, wIfS, wAsg, wgN, wgTup, wgCons, wgNil, wPar, wOr, wAnd, Ab.wNot, wIf, wOp, wUn, wCB, wCons, wNil, wTup, wLst, wLstM, wV, wC, wB, wCh, Ab.wTru, wNotT, wAndT, wOrT, wSl, wNo, wSome, wCall, wIsI, wIsI2, wStrip, wRev, gPop, wDNew, wDNewM, wSlW, gSlW, gAddM, gTimes, itemsA, wML, wYes, gIn, gInS, gIx, gEqv, gLt, gOrd, gAdd, gMinus, gInt, gNeg, gIs, gSl, gLen, gAbs, gTwo, gI1, gApp, gExt, gTupOf, gListOf, gListM, ims, asQ, asT, asL, dat, tru, at0, at1, at2, id_eq, AV.und, keyA, Ab.isNon, wipeS, List.set_cons_zero, List.set_cons_succ, wgSub, gSt, retA, List.take_length, takeSet, takeSet2, List.foldl_cons, List.foldl_nil, List.zip_cons_cons, List.zip_nil_right, keepS_nil, keepS_cons, keepO_none, keepO_im, keepO_wl, List.length_set, List.length_append, List.set_set, true_and, any_pr, snocAt, snocTake, ims_map, ims_mapF, atD, Option.isSome_some, Option.isSome_none, if_true, if_false, Bool.false_eq_true, ite_true, ite_false]; exact stay c' (cnt + 1) hc' (by omega)
            | true =>
              simp only [startA, List.map_cons, List.map_nil, List.length_cons, List.length_nil, List.replicate, List.cons_append, List.nil_append, Nat.reduceAdd, Nat.reduceSub, Nat.zero_add, Nat.sub_self, List.getElem?_cons_zero, List.getElem?_cons_succ, Option.map_some, wRet, wRetN, wSeq, wNext, wDrop, wIfS, wAsg, wgN, wgTup, wgCons, wgNil, wPar, wOr, wAnd, Ab.wNot, wIf, wOp, wUn, wCB, wCons, wNil, wTup, wLst, wLstM, wV, wC, wB, wCh, Ab.wTru, wNotT, wAndT, wOrT, wSl, wNo, wSome, wCall, wIsI, wIsI2, wStrip, wRev, gPop, wDNew, wDNewM, wSlW, gSlW, gAddM, gTimes, itemsA, wML, wYes, gIn, gInS, gIx, gEqv, gLt, gOrd, gAdd, gMinus, gInt, gNeg, gIs, gSl, gLen, gAbs, gTwo, gI1, gApp, gExt, gTupOf, gListOf, gListM, ims, asQ, asT, asL, dat, tru, at0, at1, at2, id_eq, AV.und, keyA, Ab.isNon, wipeS, List.set_cons_zero, List.set_cons_succ, wgSub, gSt, retA, List.take_length, takeSet, takeSet2, List.foldl_cons, List.foldl_nil, List.zip_cons_cons, List.zip_nil_right, keepS_nil, keepS_cons, keepO_none, keepO_im, keepO_wl, List.length_set, List.length_append, List.set_set, true_and, any_pr, snocAt, snocTake, ims_map, ims_mapF, atD, Option.isSome_some, Option.isSome_none, if_true, if_false, Bool.false_eq_true, ite_true, ite_false, getEnd (show m.length = (m.set i c').length by simp), setEnd (show m.length = (m.set i c').length by simp), e3, List.length_map]
              refine ⟨by simp [isList, getEnd (show m.length = (m.set i c').length by simp)], by decide, by rw [sizeLine_eq]; omega, ?_⟩
              refine next2 _ _ ?_
              refine ⟨l, cnt + 1, c', ts ++ [(ss[j], ss[j + 1 + to]'(by omega))], _, _, rfl, fun i hi => hl2 i (List.mem_cons_of_mem _ hi), by omega, ?_, hc', by rw [List.length_append]; exact h40, fun t ht => ?_, by simp only [startA, List.map_cons, List.map_nil, List.length_cons, List.length_nil, List.replicate, List.cons_append, List.nil_append, Nat.reduceAdd, Nat.reduceSub, Nat.zero_add, Nat.sub_self, List.getElem?_cons_zero, List.getElem?_cons_succ, Option.map_some, wRet, wRetN, wSeq, wNext, wDrop, wIfS, wAsg, wgN, wgTup, wgCons, wgNil, wPar, wOr, wAnd, Ab.wNot, wIf, wOp, wUn, wCB, wCons, wNil, wTup, wLst, wLstM, wV, wC, wB, wCh, Ab.wTru, wNotT, wAndT, wOrT, wSl, wNo, wSome, wCall, wIsI, wIsI2, wStrip, wRev, gPop, wDNew, wDNewM, wSlW, gSlW, gAddM, gTimes, itemsA, wML, wYes, gIn, gInS, gIx, gEqv, gLt, gOrd, gAdd, gMinus, gInt, gNeg, gIs, gSl, gLen, gAbs, gTwo, gI1, gApp, gExt, gTupOf, gListOf, gListM, ims, asQ, asT, asL, dat, tru, at0, at1, at2, id_eq, AV.und, keyA, Ab.isNon, wipeS, List.set_cons_zero, List.set_cons_succ, wgSub, gSt, retA, List.take_length, takeSet, takeSet2, List.foldl_cons, List.foldl_nil, List.zip_cons_cons, List.zip_nil_right, keepS_nil, keepS_cons, keepO_none, keepO_im, keepO_wl, List.length_set, List.length_append, List.set_set, true_and, any_pr, snocAt, snocTake, ims_map, ims_mapF, atD, Option.isSome_some, Option.isSome_none, if_true, if_false, Bool.false_eq_true, ite_true, ite_false, keepO_mu (show i < m.length + 1 by omega), keepO_mu (show m.length < m.length + 1 by omega)] <;> rfl, Loose.im, Loose.im⟩
              · rw [List.take_of_length_le (by simp), List.map_append]; rfl
              · rcases List.mem_append.mp ht with h | h
                · exact hT t h
                · rw [List.mem_singleton.mp h]
                  exact ⟨List.getElem_mem _, List.getElem_mem _, List.pairwise_iff_getElem.mp asc _ _ (by omega) (by omega) (by omega)⟩
          · have d40 : decide ((ts.length : Int) < 40) = false := by simp; omega
            simp only [startA, List.map_cons, List.map_nil, List.length_cons, List.length_nil, List.replicate, List.cons_append, List.nil_append, Nat.reduceAdd, Nat.reduceSub, Nat.zero_add, Nat.sub_self, List.getElem?_cons_zero, List.getElem?_cons_succ, Option.map_some, wRet, wRetN, wSeq, wNext, wDrop, wIfS, wAsg, wgN, wgTup, wgCons, wgNil, wPar, wOr, wAnd, Ab.wNot, wIf, wOp, wUn, wCB, wCons, wNil, wTup, wLst, wLstM, wV, wC, wB, wCh, Ab.wTru, wNotT, wAndT, wOrT, wSl, wNo, wSome, wCall, wIsI, wIsI2, wStrip, wRev, gPop, wDNew, wDNewM, wSlW, gSlW, gAddM, gTimes, itemsA, wML, wYes, gIn, gInS, gIx, gEqv, gLt, gOrd, gAdd, gMinus, gInt, gNeg, gIs, gSl, gLen, gAbs, gTwo, gI1, gApp, gExt, gTupOf, gListOf, gListM, ims, asQ, asT, asL, dat, tru, at0, at1, at2, id_eq, AV.und, keyA, Ab.isNon, wipeS, List.set_cons_zero, List.set_cons_succ, wgSub, gSt, retA, List.take_length, takeSet, takeSet2, List.foldl_cons, List.foldl_nil, List.zip_cons_cons, List.zip_nil_right, keepS_nil, keepS_cons, keepO_none, keepO_im, keepO_wl, List.length_set, List.length_append, List.set_set, true_and, any_pr, snocAt, snocTake, ims_map, ims_mapF, atD, Option.isSome_some, Option.isSome_none, if_true, if_false, Bool.false_eq_true, ite_true, ite_false, List.length_map, d40]
            exact stay c cnt hc (by omega)
      cases b with
      | false => simp only [startA, List.map_cons, List.map_nil, List.length_cons, List.length_nil, List.replicate, List.cons_append, List.nil_append, Nat.reduceAdd, Nat.reduceSub, Nat.zero_add, Nat.sub_self, List.getElem?_cons_zero, List.getElem?_cons_succ, Option.map_some, wRet, wRetN, wSeq, wNext, wDrop, wIfS, wAsg, wgN, wgTup, wgCons, wgNil, wPar, wOr, wAnd, Ab.wNot, wIf, wOp, wUn, wCB, wCons, wNil, wTup, wLst, wLstM, wV, wC, wB, wCh, Ab.wTru, wNotT, wAndT, wOrT, wSl, wNo, wSome, wCall, wIsI, wIsI2, wStrip, wRev, gPop, wDNew, wDNewM, wSlW, gSlW, gAddM, gTimes, itemsA, wML, wYes, gIn, gInS, gIx, gEqv, gLt, gOrd, gAdd, gMinus, gInt, gNeg, gIs, gSl, gLen, gAbs, gTwo, gI1, gApp, gExt, gTupOf, gListOf, gListM, ims, asQ, asT, asL, dat, tru, at0, at1, at2, id_eq, AV.und, keyA, Ab.isNon, wipeS, List.set_cons_zero, List.set_cons_succ, wgSub, gSt, retA, List.take_length, takeSet, takeSet2, List.foldl_cons, List.foldl_nil, List.zip_cons_cons, List.zip_nil_right, keepS_nil, keepS_cons, keepO_none, keepO_im, keepO_wl, List.length_set, List.length_append, List.set_set, true_and, any_pr, snocAt, snocTake, ims_map, ims_mapF, atD, Option.isSome_some, Option.isSome_none, if_true, if_false, Bool.false_eq_true, ite_true, ite_false, Bool.not_false]; exact wanted _
      | true => simp only [startA, List.map_cons, List.map_nil, List.length_cons, List.length_nil, List.replicate, List.cons_append, List.nil_append, Nat.reduceAdd, Nat.reduceSub, Nat.zero_add, Nat.sub_self, List.getElem?_cons_zero, List.getElem?_cons_succ, Option.map_some, wRet, wRetN, wSeq, wNext, wDrop, wIfS, wAsg, wgN, wgTup, wgCons, wgNil, wPar, wOr, wAnd, Ab.wNot, wIf, wOp, wUn, wCB, wCons, wNil, wTup, wLst, wLstM, wV, wC, wB, wCh, Ab.wTru, wNotT, wAndT, wOrT, wSl, wNo, wSome, wCall, wIsI, wIsI2, wStrip, wRev, gPop, wDNew, wDNewM, wSlW, gSlW, gAddM, gTimes, itemsA, wML, wYes, gIn, gInS, gIx, gEqv, gLt, gOrd, gAdd, gMinus, gInt, gNeg, gIs, gSl, gLen, gAbs, gTwo, gI1, gApp, gExt, gTupOf, gListOf, gListM, ims, asQ, asT, asL, dat, tru, at0, at1, at2, id_eq, AV.und, keyA, Ab.isNon, wipeS, List.set_cons_zero, List.set_cons_succ, wgSub, gSt, retA, List.take_length, takeSet, takeSet2, List.foldl_cons, List.foldl_nil, List.zip_cons_cons, List.zip_nil_right, keepS_nil, keepS_cons, keepO_none, keepO_im, keepO_wl, List.length_set, List.length_append, List.set_set, true_and, any_pr, snocAt, snocTake, ims_map, ims_mapF, atD, Option.isSome_some, Option.isSome_none, if_true, if_false, Bool.false_eq_true, ite_true, ite_false, Bool.not_true, e1, e2]; exact wanted _
    · rintro ρ m' ⟨l, cnt, c, ts, o9, o10, ex, hl2, hcnt, rfl, hc, hts, hT, rfl, l9, l10⟩
      have el : l = [] := by cases l with | nil => rfl | cons _ _ => cases ex
      subst el
      refine next _ _ ⟨j + 1, cnt, c, ts, _, _, _, _, rfl, hj2, by rw [Nat.add_mul]; simpa using hcnt, List.take_of_length_le (by simp), hc, hts, hT, by simp only [startA, List.map_cons, List.map_nil, List.length_cons, List.length_nil, List.replicate, List.cons_append, List.nil_append, Nat.reduceAdd, Nat.reduceSub, Nat.zero_add, Nat.sub_self, List.getElem?_cons_zero, List.getElem?_cons_succ, Option.map_some, wRet, wRetN, wSeq, wNext, wDrop, wIfS, wAsg, wgN, wgTup, wgCons, wgNil, wPar, wOr, wAnd, Ab.wNot, wIf, wOp, wUn, wCB, wCons, wNil, wTup, wLst, wLstM, wV, wC, wB, wCh, Ab.wTru, wNotT, wAndT, wOrT, wSl, wNo, wSome, wCall, wIsI, wIsI2, wStrip, wRev, gPop, wDNew, wDNewM, wSlW, gSlW, gAddM, gTimes, itemsA, wML, wYes, gIn, gInS, gIx, gEqv, gLt, gOrd, gAdd, gMinus, gInt, gNeg, gIs, gSl, gLen, gAbs, gTwo, gI1, gApp, gExt, gTupOf, gListOf, gListM, ims, asQ, asT, asL, dat, tru, at0, at1, at2, id_eq, AV.und, keyA, Ab.isNon, wipeS, List.set_cons_zero, List.set_cons_succ, wgSub, gSt, retA, List.take_length, takeSet, takeSet2, List.foldl_cons, List.foldl_nil, List.zip_cons_cons, List.zip_nil_right, keepS_nil, keepS_cons, keepO_none, keepO_im, keepO_wl, List.length_set, List.length_append, List.set_set, true_and, any_pr, snocAt, snocTake, ims_map, ims_mapF, atD, Option.isSome_some, Option.isSome_none, if_true, if_false, Bool.false_eq_true, ite_true, ite_false, keepO_mu (show i < m.length + 1 by omega), keepO_mu (show m.length < m.length + 1 by omega), l9 _, l10 _] <;> rfl, Loose.im, Loose.im, l9, l10⟩
    · exact ⟨List.range ((k : Int) - ((j : Int) + 1)).toNat, cnt, c, ts, o9, o10, rfl, fun i hi => List.mem_range.mp hi, by rw [List.length_range]; omega, rfl, hc, hts, hT, rfl, l9, l10⟩
  · rintro ρ m' ⟨j, cnt, c, ts, o7, o8, o9, o10, ex, hj, hcnt, rfl, hc, hts, hT, rfl, l7, l8, l9, l10⟩
    refine n3 _ _ ?_
    simp only [startA, List.map_cons, List.map_nil, List.length_cons, List.length_nil, List.replicate, List.cons_append, List.nil_append, Nat.reduceAdd, Nat.reduceSub, Nat.zero_add, Nat.sub_self, List.getElem?_cons_zero, List.getElem?_cons_succ, Option.map_some, wRet, wRetN, wSeq, wNext, wDrop, wIfS, wAsg, wgN, wgTup, wgCons, wgNil, wPar, wOr, wAnd, Ab.wNot, wIf, wOp, wUn, wCB, wCons, wNil, wTup, wLst, wLstM, wV, wC, wB, wCh, Ab.wTru, wNotT, wAndT, wOrT, wSl, wNo, wSome, wCall, wIsI, wIsI2, wStrip, wRev, gPop, wDNew, wDNewM, wSlW, gSlW, gAddM, gTimes, itemsA, wML, wYes, gIn, gInS, gIx, gEqv, gLt, gOrd, gAdd, gMinus, gInt, gNeg, gIs, gSl, gLen, gAbs, gTwo, gI1, gApp, gExt, gTupOf, gListOf, gListM, ims, asQ, asT, asL, dat, tru, at0, at1, at2, id_eq, AV.und, keyA, Ab.isNon, wipeS, List.set_cons_zero, List.set_cons_succ, wgSub, gSt, retA, List.take_length, takeSet, takeSet2, List.foldl_cons, List.foldl_nil, List.zip_cons_cons, List.zip_nil_right, keepS_nil, keepS_cons, keepO_none, keepO_im, keepO_wl, List.length_set, List.length_append, List.set_set, true_and, any_pr, snocAt, snocTake, ims_map, ims_mapF, atD, Option.isSome_some, Option.isSome_none, if_true, if_false, Bool.false_eq_true, ite_true, ite_false, getEnd (show m.length = (m.set i c).length by simp)]
    have : j * k ≤ 26 * 26 := Nat.mul_le_mul (by omega) hk
    exact ⟨by decide, q ss ts c ⟨oks, by omega, asc, hts, hT⟩ hl (hc.mono (by omega))⟩
  · exact ⟨0, 0, c, [], none, none, none, none, rfl, Nat.zero_le _, Nat.zero_le _, rfl, hc, Nat.zero_le _, (fun _ h => by cases h), rfl, Loose.non, Loose.non, Loose.non, Loose.non⟩
end
end K14
end

section
set_option maxRecDepth 100000
set_option maxHeartbeats 4000000
namespace K14
open PySem PySem.Spec PyProof.Rows L2 Gd Ab
abbrev s_beside : Stmt := topS 17
theorem sc_beside : FnScope ["_law_network_here", "_law_found", "_law_one", "_law_other", "_law_service", "_law_some"] ["_law_network_here"] (defScope s_beside) := ⟨rfl, rfl, rfl, by decide +kernel, rfl, by decide +kernel, by decide +kernel⟩
section
variable {P : Program} {w : World} {K : PySem.W.Frag} {mg : Str → Option Value} {base : Heap} {t0 : Tok}
def nbS (ts : List (Str × Str)) (a : Str) : List Str := (nbrs ts a).mergeSort ordS
def besideC (ss : List Str) (ts : List (Str × Str)) : List (Key × AV) := ss.map fun a => (.inr a, .wl ((nbS ts a).map .str))
def aBeside : ASp := fun ds m P _ => ∃ ss ts, ds = [.im (netD ss ts)] ∧ NetV ss ts ∧ P (.mu m.length) (m ++ [.dk (besideC ss ts)])
/-- the lists of the neighbours by some of the talks -/
def nbL (ss : List Str) (ts : List (Str × Str)) : Store := ss.map fun a => .lst ((nbrs ts a).map fun b => .im (.str b))
def foundC (ss : List Str) (n : Nat) : List (Key × AV) := ss.map fun a => (.inr a, .mu (n + ss.idxOf a))
theorem look_found {ss : List Str} {n : Nat} {a : Str} (h : a ∈ ss) : lookA (foundC ss n) (.inr a) = some (.mu (n + ss.idxOf a)) := look_map h
theorem ok_beside (hB : Bs mg t0) (D : Defd K mg "_law_beside" s_beside) : Callee P w K mg base CX0 1 "_law_beside" ["_law_network_here"] (lift aBeside) := by
  refine okA D sc_beside (fun _ _ _ _ _ _ us hl => match us, hl with | [_], _ => rfl) (fun ds m Q EA ⟨_, _, e, _⟩ => by rw [e]; rfl) fun f cdv A outer s H E B hgu hr => ?_
  refine ⟨_, _, (ss_cons (s_set (i := 1) sc_beside.nd rfl (.inl rfl) (ae_callTy (ca_dict rfl) (by rfl) hB.dict (by decide +kernel) (al_cons (ae_lcK (own := [("_law_service", 4)]) (g := (gName 4)) rfl sc_beside.nd (ai_any (K := K) rfl (ae_ix hr (ae_v (pv 0)) ae_int (fun _ _ => rfl))) (blkOk_by (N := ["_law_network_here", "_law_found", "_law_one", "_law_other", "_law_service", "_law_some"]) (sc := defScope s_beside) (by decide +kernel)) (fun _ _ _ _ _ => (g_name (pg_name (i := 4) sc_beside.nd rfl (.inl rfl)))) (own_name (by decide)) (mono_name _) (fun _ _ _ _ _ => ts_nil) (fun _ _ _ _ _ => (ae_tup (al_cons (ae_v (pv 4)) (al_cons (ae_lstM al_nil) al_nil))))) al_nil)))
        (ss_cons (s_for PassesOwn.never rfl (ai_any (K := K) rfl (ae_ix hr (ae_v (pv 0)) ae_int (fun _ _ => rfl))) (g_tup (K := K) rfl rfl (gs_cons (g_name (pg_name (i := 2) sc_beside.nd rfl (.inl rfl))) (gs_cons (g_name (pg_name (i := 3) sc_beside.nd rfl (.inl rfl))) gs_nil))) (ss_cons (s_expr (ae_ml (K := K) PySem.F.plainAttrs_list PySem.F.slot_list_append PySem.F.type_list_append ma_append (ae_ix hr (ae_v (pv 1)) (ae_v (pv 2)) (fun _ _ => rfl)) (al_cons (ae_v (pv 3)) al_nil)))
        (ss_one (s_expr (ae_ml (K := K) PySem.F.plainAttrs_list PySem.F.slot_list_append PySem.F.type_list_append ma_append (ae_ix hr (ae_v (pv 1)) (ae_v (pv 3)) (fun _ _ => rfl)) (al_cons (ae_v (pv 2)) al_nil))))))
        (ss_one (s_ret (ae_callTy (ca_dict rfl) (by rfl) hB.dict (by decide +kernel) (al_cons (ae_lock 1 (ae_lcM (own := [("_law_service", 4), ("_law_some", 5)]) (g := (gTup K 2 (gCons (gName 4) (gCons (gName 5) gNil)))) rfl sc_beside.nd (ai_items (ae_v (pv 1))) (blkOk_by (N := ["_law_network_here", "_law_found", "_law_one", "_law_other", "_law_service", "_law_some"]) (sc := defScope s_beside) (by decide +kernel)) (fun _ _ _ _ _ => (by exact (g_tup (K := K) rfl rfl (gs_cons (g_name (pg_name (i := 4) sc_beside.nd rfl (.inl rfl))) (gs_cons (g_name (pg_name (i := 5) sc_beside.nd rfl (.inl rfl))) gs_nil))))) (own_tup (owns_cons (mono_name _) (mono_cons (mono_name _) mono_nil) (own_name (by decide)) (owns_cons (mono_name _) mono_nil (own_name (by decide)) owns_nil))) (mono_tup (mono_cons (mono_name _) (mono_cons (mono_name _) mono_nil))) (fun _ _ _ _ _ => ts_nil) (fun _ _ _ _ _ => (ae_tup (al_cons (ae_v (pv 4)) (al_cons (ae_callB (ca_sorted hr) (by rfl) hB.sorted (by decide +kernel) (al_cons (ae_v (pv 5)) al_nil)) al_nil)))))) al_nil)))))), ?_⟩
  rintro _ m Q ⟨ss, ts, rfl, nv, q⟩
  have nd := nv.asc.nodup
  have hls := nv.ls
  refine wSeq_of fun N1 n1 => ?_
  simp only [startA, List.map_cons, List.map_nil, List.length_cons, List.length_nil, List.replicate, List.cons_append, List.nil_append, Nat.reduceAdd, Nat.reduceSub, Nat.zero_add, Nat.sub_self, List.getElem?_cons_zero, List.getElem?_cons_succ, Option.map_some, wRet, wRetN, wSeq, wNext, wDrop, wIfS, wAsg, wgN, wgTup, wgCons, wgNil, wPar, wOr, wAnd, Ab.wNot, wIf, wOp, wUn, wCB, wCons, wNil, wTup, wLst, wLstM, wV, wC, wB, wCh, Ab.wTru, wNotT, wAndT, wOrT, wSl, wNo, wSome, wCall, wIsI, wIsI2, wStrip, wRev, gPop, wDNew, wDNewM, wSlW, gSlW, gAddM, gTimes, itemsA, wML, wYes, gIn, gInS, gIx, gEqv, gLt, gOrd, gAdd, gMinus, gInt, gNeg, gIs, gSl, gLen, gAbs, gTwo, gI1, gApp, gExt, gTupOf, gListOf, gListM, ims, asQ, asT, asL, dat, tru, at0, at1, at2, id_eq, AV.und, keyA, Ab.isNon, wipeS, List.set_cons_zero, List.set_cons_succ, wgSub, gSt, retA, List.take_length, takeSet, takeSet2, List.foldl_cons, List.foldl_nil, List.zip_cons_cons, List.zip_nil_right, keepS_nil, keepS_cons, keepO_none, keepO_im, keepO_wl, List.length_set, List.length_append, List.set_set, true_and, any_pr, snocAt, snocTake, ims_map, ims_mapF, atD, Option.isSome_some, Option.isSome_none, if_true, if_false, Bool.false_eq_true, ite_true, ite_false, wLcK, wiAny]
  refine acc_inv (fun xs acc m' => ∃ d r, ss = d ++ r ∧ xs = (r.map PyData.str).map .im ∧ acc = d.map (fun a => .pr (.im (.str a)) (.mu (m.length + ss.idxOf a))) ∧ m' = m ++ d.map fun _ => .lst []) (fun _ _ _ _ => trivial) ?_ ?_ ⟨[], ss, rfl, rfl, rfl, by simp⟩
  · rintro x xs acc m' Kt ⟨d, r, e, ex, rfl, rfl⟩ next
    obtain ⟨a, r, rfl, rfl, rfl⟩ : ∃ a r', r = a :: r' ∧ x = .im (.str a) ∧ xs = (r'.map PyData.str).map .im := by
      cases r with
      | nil => cases ex
      | cons t l' => simp only [List.map_cons, List.cons.injEq] at ex; exact ⟨t, l', rfl, ex.1, ex.2⟩
    have hl : d.length + (r.length + 1) ≤ 26 := by rw [e] at hls; simpa using hls
    simp only [startA, List.map_cons, List.map_nil, List.length_cons, List.length_nil, List.replicate, List.cons_append, List.nil_append, Nat.reduceAdd, Nat.reduceSub, Nat.zero_add, Nat.sub_self, List.getElem?_cons_zero, List.getElem?_cons_succ, Option.map_some, wRet, wRetN, wSeq, wNext, wDrop, wIfS, wAsg, wgN, wgTup, wgCons, wgNil, wPar, wOr, wAnd, Ab.wNot, wIf, wOp, wUn, wCB, wCons, wNil, wTup, wLst, wLstM, wV, wC, wB, wCh, Ab.wTru, wNotT, wAndT, wOrT, wSl, wNo, wSome, wCall, wIsI, wIsI2, wStrip, wRev, gPop, wDNew, wDNewM, wSlW, gSlW, gAddM, gTimes, itemsA, wML, wYes, gIn, gInS, gIx, gEqv, gLt, gOrd, gAdd, gMinus, gInt, gNeg, gIs, gSl, gLen, gAbs, gTwo, gI1, gApp, gExt, gTupOf, gListOf, gListM, ims, asQ, asT, asL, dat, tru, at0, at1, at2, id_eq, AV.und, keyA, Ab.isNon, wipeS, List.set_cons_zero, List.set_cons_succ, wgSub, gSt, retA, List.take_length, takeSet, takeSet2, List.foldl_cons, List.foldl_nil, List.zip_cons_cons, List.zip_nil_right, keepS_nil, keepS_cons, keepO_none, keepO_im, keepO_wl, List.length_set, List.length_append, List.set_set, true_and, any_pr, snocAt, snocTake, ims_map, ims_mapF, atD, Option.isSome_some, Option.isSome_none, if_true, if_false, Bool.false_eq_true, ite_true, ite_false, turnK, List.length_map]
    refine ⟨by decide, by rw [sizeLine_eq]; omega, ?_⟩
    refine next _ _ ⟨d ++ [a], r, by simp [e], rfl, ?_, by simp⟩
    rw [List.map_append]
    congr 1
    have ei : ss.idxOf a = d.length := by rw [e] at nd ⊢; exact idx_mid nd
    simp [ei]
  rintro acc m' ⟨d, r, e, ex, rfl, rfl⟩
  have er : r = [] := by cases r with | nil => rfl | cons _ _ => cases ex
  subst er
  rw [List.append_nil] at e
  subst e
  have eg : (m ++ ss.map fun _ => Cell.lst []) = m ++ nbL ss [] := rfl
  simp only [gDict, itemsA, getEnd, pairs_map, merge_map nd]
  refine n1 _ _ (wSeq_of fun N2 n2 => ?_)
  clear n1 N1
  refine wFor_of fun B1 b1 => ?_
  simp only [startA, List.map_cons, List.map_nil, List.length_cons, List.length_nil, List.replicate, List.cons_append, List.nil_append, Nat.reduceAdd, Nat.reduceSub, Nat.zero_add, Nat.sub_self, List.getElem?_cons_zero, List.getElem?_cons_succ, Option.map_some, wRet, wRetN, wSeq, wNext, wDrop, wIfS, wAsg, wgN, wgTup, wgCons, wgNil, wPar, wOr, wAnd, Ab.wNot, wIf, wOp, wUn, wCB, wCons, wNil, wTup, wLst, wLstM, wV, wC, wB, wCh, Ab.wTru, wNotT, wAndT, wOrT, wSl, wNo, wSome, wCall, wIsI, wIsI2, wStrip, wRev, gPop, wDNew, wDNewM, wSlW, gSlW, gAddM, gTimes, itemsA, wML, wYes, gIn, gInS, gIx, gEqv, gLt, gOrd, gAdd, gMinus, gInt, gNeg, gIs, gSl, gLen, gAbs, gTwo, gI1, gApp, gExt, gTupOf, gListOf, gListM, ims, asQ, asT, asL, dat, tru, at0, at1, at2, id_eq, AV.und, keyA, Ab.isNon, wipeS, List.set_cons_zero, List.set_cons_succ, wgSub, gSt, retA, List.take_length, takeSet, takeSet2, List.foldl_cons, List.foldl_nil, List.zip_cons_cons, List.zip_nil_right, keepS_nil, keepS_cons, keepO_none, keepO_im, keepO_wl, List.length_set, List.length_append, List.set_set, true_and, any_pr, snocAt, snocTake, ims_map, ims_mapF, atD, Option.isSome_some, Option.isSome_none, if_true, if_false, Bool.false_eq_true, ite_true, ite_false, wiAny]
  simp only [List.length_map]
  generalize eA : ss.map (fun a => (AV.im (PyData.str a)).pr (AV.mu (m.length + ss.idxOf a))) = acc
  have eF : (ss.map fun a => ((Sum.inr a : Key), AV.mu (m.length + ss.idxOf a))) = foundC ss m.length := rfl
  rw [eF]
  have hd : ∀ (G : Str → Cell) (c : Cell), (m ++ (ss.map G ++ [Cell.lst acc, c]))[m.length + ss.length + 1]? = some c := fun G c => by
    rw [List.getElem?_append_right (by omega), List.getElem?_append_right (by simp; omega)]
    have : m.length + ss.length + 1 - m.length - (ss.map G).length = 1 := by simp; omega
    rw [this]; rfl
  have hs : ∀ (G : Str → Cell) (c c' : Cell), (m ++ (ss.map G ++ [Cell.lst acc, c])).set (m.length + ss.length + 1) c' = m ++ (ss.map G ++ [Cell.lst acc, c']) := fun G c c' => by
    rw [List.set_append_right _ _ (by omega), List.set_append_right _ _ (by simp; omega)]
    have : m.length + ss.length + 1 - m.length - (ss.map G).length = 1 := by simp; omega
    rw [this]; rfl
  have lt : ∀ {a b : Str}, (a, b) ∈ ts → a ∈ ss ∧ b ∈ ss ∧ a ≠ b := fun h => let ⟨x, y, z⟩ := nv.t _ h; ⟨x, y, z.ne⟩
  have hlt := nv.lt
  refine for_inv (fun xs ρ m' => ∃ d r o2 o3, ts = d ++ r ∧ xs = (r.map prD).map .im ∧ m' = m ++ (nbL ss d ++ [.lst acc, .dk (foundC ss m.length)]) ∧ ρ = [some (.im (netD ss ts)), some (.mu (m.length + ss.length + 1)), o2, o3, none, none] ∧ Loose o2 ∧ Loose o3) (fun _ _ _ _ => trivial) ?_ ?_ ⟨[], ts, none, none, rfl, rfl, by simp [nbL, nbrs], rfl, Loose.non, Loose.non⟩
  · rintro x xs ρ m' nx ⟨d, r, o2, o3, e, ex, rfl, rfl, l2, l3⟩ next
    obtain ⟨⟨a, b⟩, r, rfl, rfl, rfl⟩ : ∃ a r', r = a :: r' ∧ x = .im (prD a) ∧ xs = (r'.map prD).map .im := by
      cases r with
      | nil => cases ex
      | cons t l' => simp only [List.map_cons, List.cons.injEq] at ex; exact ⟨t, l', rfl, ex.1, ex.2⟩
    obtain ⟨ha, hb, ne⟩ := lt (show (a, b) ∈ ts by rw [e]; simp)
    have nl : ∀ x, (nbrs d x).length ≤ 40 := fun x => by
      have := nbrs_len d x
      rw [e] at hlt
      simp at hlt
      omega
    refine b1 _ _ _ _ ?_
    simp only [wgN, wgTup, wgCons, wgNil, List.map_cons, List.map_nil, List.set_cons_zero, List.set_cons_succ, List.length_cons, List.length_nil]
    refine ⟨rfl, wSeq_of fun N3 n3 => ?_⟩
    simp only [startA, List.map_cons, List.map_nil, List.length_cons, List.length_nil, List.replicate, List.cons_append, List.nil_append, Nat.reduceAdd, Nat.reduceSub, Nat.zero_add, Nat.sub_self, List.getElem?_cons_zero, List.getElem?_cons_succ, Option.map_some, wRet, wRetN, wSeq, wNext, wDrop, wIfS, wAsg, wgN, wgTup, wgCons, wgNil, wPar, wOr, wAnd, Ab.wNot, wIf, wOp, wUn, wCB, wCons, wNil, wTup, wLst, wLstM, wV, wC, wB, wCh, Ab.wTru, wNotT, wAndT, wOrT, wSl, wNo, wSome, wCall, wIsI, wIsI2, wStrip, wRev, gPop, wDNew, wDNewM, wSlW, gSlW, gAddM, gTimes, itemsA, wML, wYes, gIn, gInS, gIx, gEqv, gLt, gOrd, gAdd, gMinus, gInt, gNeg, gIs, gSl, gLen, gAbs, gTwo, gI1, gApp, gExt, gTupOf, gListOf, gListM, ims, asQ, asT, asL, dat, tru, at0, at1, at2, id_eq, AV.und, keyA, Ab.isNon, wipeS, List.set_cons_zero, List.set_cons_succ, wgSub, gSt, retA, List.take_length, takeSet, takeSet2, List.foldl_cons, List.foldl_nil, List.zip_cons_cons, List.zip_nil_right, keepS_nil, keepS_cons, keepO_none, keepO_im, keepO_wl, List.length_set, List.length_append, List.set_set, true_and, any_pr, snocAt, snocTake, ims_map, ims_mapF, atD, Option.isSome_some, Option.isSome_none, if_true, if_false, Bool.false_eq_true, ite_true, ite_false, hd, nbL, atD, look_found ha, isList, nb_get ha, nb_set ha nd]
    refine ⟨by rw [List.length_map, sizeLine_eq]; have := nl a; omega, ?_⟩
    refine n3 _ _ ?_
    simp only [startA, List.map_cons, List.map_nil, List.length_cons, List.length_nil, List.replicate, List.cons_append, List.nil_append, Nat.reduceAdd, Nat.reduceSub, Nat.zero_add, Nat.sub_self, List.getElem?_cons_zero, List.getElem?_cons_succ, Option.map_some, wRet, wRetN, wSeq, wNext, wDrop, wIfS, wAsg, wgN, wgTup, wgCons, wgNil, wPar, wOr, wAnd, Ab.wNot, wIf, wOp, wUn, wCB, wCons, wNil, wTup, wLst, wLstM, wV, wC, wB, wCh, Ab.wTru, wNotT, wAndT, wOrT, wSl, wNo, wSome, wCall, wIsI, wIsI2, wStrip, wRev, gPop, wDNew, wDNewM, wSlW, gSlW, gAddM, gTimes, itemsA, wML, wYes, gIn, gInS, gIx, gEqv, gLt, gOrd, gAdd, gMinus, gInt, gNeg, gIs, gSl, gLen, gAbs, gTwo, gI1, gApp, gExt, gTupOf, gListOf, gListM, ims, asQ, asT, asL, dat, tru, at0, at1, at2, id_eq, AV.und, keyA, Ab.isNon, wipeS, List.set_cons_zero, List.set_cons_succ, wgSub, gSt, retA, List.take_length, takeSet, takeSet2, List.foldl_cons, List.foldl_nil, List.zip_cons_cons, List.zip_nil_right, keepS_nil, keepS_cons, keepO_none, keepO_im, keepO_wl, List.length_set, List.length_append, List.set_set, true_and, any_pr, snocAt, snocTake, ims_map, ims_mapF, atD, Option.isSome_some, Option.isSome_none, if_true, if_false, Bool.false_eq_true, ite_true, ite_false, hd, nbL, atD, look_found hb, isList, nb_get hb, nb_set hb nd, if_neg ne.symm]
    refine ⟨by rw [List.length_map, sizeLine_eq]; have := nl b; omega, ?_⟩
    refine next _ _ ⟨d ++ [(a, b)], r, _, _, by simp [e], rfl, ?_, by simp only [startA, List.map_cons, List.map_nil, List.length_cons, List.length_nil, List.replicate, List.cons_append, List.nil_append, Nat.reduceAdd, Nat.reduceSub, Nat.zero_add, Nat.sub_self, List.getElem?_cons_zero, List.getElem?_cons_succ, Option.map_some, wRet, wRetN, wSeq, wNext, wDrop, wIfS, wAsg, wgN, wgTup, wgCons, wgNil, wPar, wOr, wAnd, Ab.wNot, wIf, wOp, wUn, wCB, wCons, wNil, wTup, wLst, wLstM, wV, wC, wB, wCh, Ab.wTru, wNotT, wAndT, wOrT, wSl, wNo, wSome, wCall, wIsI, wIsI2, wStrip, wRev, gPop, wDNew, wDNewM, wSlW, gSlW, gAddM, gTimes, itemsA, wML, wYes, gIn, gInS, gIx, gEqv, gLt, gOrd, gAdd, gMinus, gInt, gNeg, gIs, gSl, gLen, gAbs, gTwo, gI1, gApp, gExt, gTupOf, gListOf, gListM, ims, asQ, asT, asL, dat, tru, at0, at1, at2, id_eq, AV.und, keyA, Ab.isNon, wipeS, List.set_cons_zero, List.set_cons_succ, wgSub, gSt, retA, List.take_length, takeSet, takeSet2, List.foldl_cons, List.foldl_nil, List.zip_cons_cons, List.zip_nil_right, keepS_nil, keepS_cons, keepO_none, keepO_im, keepO_wl, List.length_set, List.length_append, List.set_set, true_and, any_pr, snocAt, snocTake, ims_map, ims_mapF, atD, Option.isSome_some, Option.isSome_none, if_true, if_false, Bool.false_eq_true, ite_true, ite_false, keepO_mu (show m.length + ss.length + 1 < m.length + ss.length + 1 + 1 by omega)] <;> rfl, Loose.im, Loose.im⟩
    rw [List.take_of_length_le (by simp; omega)]
    congr 2
    refine List.map_congr_left fun x hx => ?_
    rw [nbrs_snoc]
    by_cases e1 : x = b
    · subst e1; simp [ne]
    · by_cases e2 : x = a
      · subst e2; simp [e1]
      · have e1' : ¬ b = x := fun z => e1 z.symm
        have e2' : ¬ a = x := fun z => e2 z.symm
        simp [e1, e2, e1', e2']
  · rintro ρ m' ⟨d, r, o2, o3, e, ex, rfl, rfl, l2, l3⟩
    have er : r = [] := by cases r with | nil => rfl | cons _ _ => cases ex
    subst er
    rw [List.append_nil] at e
    subst e
    refine n2 _ _ ?_
    simp only [startA, List.map_cons, List.map_nil, List.length_cons, List.length_nil, List.replicate, List.cons_append, List.nil_append, Nat.reduceAdd, Nat.reduceSub, Nat.zero_add, Nat.sub_self, List.getElem?_cons_zero, List.getElem?_cons_succ, Option.map_some, wRet, wRetN, wSeq, wNext, wDrop, wIfS, wAsg, wgN, wgTup, wgCons, wgNil, wPar, wOr, wAnd, Ab.wNot, wIf, wOp, wUn, wCB, wCons, wNil, wTup, wLst, wLstM, wV, wC, wB, wCh, Ab.wTru, wNotT, wAndT, wOrT, wSl, wNo, wSome, wCall, wIsI, wIsI2, wStrip, wRev, gPop, wDNew, wDNewM, wSlW, gSlW, gAddM, gTimes, itemsA, wML, wYes, gIn, gInS, gIx, gEqv, gLt, gOrd, gAdd, gMinus, gInt, gNeg, gIs, gSl, gLen, gAbs, gTwo, gI1, gApp, gExt, gTupOf, gListOf, gListM, ims, asQ, asT, asL, dat, tru, at0, at1, at2, id_eq, AV.und, keyA, Ab.isNon, wipeS, List.set_cons_zero, List.set_cons_succ, wgSub, gSt, retA, List.take_length, takeSet, takeSet2, List.foldl_cons, List.foldl_nil, List.zip_cons_cons, List.zip_nil_right, keepS_nil, keepS_cons, keepO_none, keepO_im, keepO_wl, List.length_set, List.length_append, List.set_set, true_and, any_pr, snocAt, snocTake, ims_map, ims_mapF, atD, Option.isSome_some, Option.isSome_none, if_true, if_false, Bool.false_eq_true, ite_true, ite_false, gDict, wLock, nbL, hd, hs]
    intro o us
    simp only [startA, List.map_cons, List.map_nil, List.length_cons, List.length_nil, List.replicate, List.cons_append, List.nil_append, Nat.reduceAdd, Nat.reduceSub, Nat.zero_add, Nat.sub_self, List.getElem?_cons_zero, List.getElem?_cons_succ, Option.map_some, wRet, wRetN, wSeq, wNext, wDrop, wIfS, wAsg, wgN, wgTup, wgCons, wgNil, wPar, wOr, wAnd, Ab.wNot, wIf, wOp, wUn, wCB, wCons, wNil, wTup, wLst, wLstM, wV, wC, wB, wCh, Ab.wTru, wNotT, wAndT, wOrT, wSl, wNo, wSome, wCall, wIsI, wIsI2, wStrip, wRev, gPop, wDNew, wDNewM, wSlW, gSlW, gAddM, gTimes, itemsA, wML, wYes, gIn, gInS, gIx, gEqv, gLt, gOrd, gAdd, gMinus, gInt, gNeg, gIs, gSl, gLen, gAbs, gTwo, gI1, gApp, gExt, gTupOf, gListOf, gListM, ims, asQ, asT, asL, dat, tru, at0, at1, at2, id_eq, AV.und, keyA, Ab.isNon, wipeS, List.set_cons_zero, List.set_cons_succ, wgSub, gSt, retA, List.take_length, takeSet, takeSet2, List.foldl_cons, List.foldl_nil, List.zip_cons_cons, List.zip_nil_right, keepS_nil, keepS_cons, keepO_none, keepO_im, keepO_wl, List.length_set, List.length_append, List.set_set, true_and, any_pr, snocAt, snocTake, ims_map, ims_mapF, atD, Option.isSome_some, Option.isSome_none, if_true, if_false, Bool.false_eq_true, ite_true, ite_false, wLcM, wLcs, wiItems, hd, hs]
    simp only [foundC, List.map_map, Function.comp_def]
    refine ⟨by rw [sizeLine_eq, List.length_map]; omega, ?_⟩
    refine lc_map ss _ (fun a => some (.pr (.im (.str a)) (.wl ((nbS ts a).map .str)))) (hd _ _) (by simp) (fun a ha Kt hk => ?_) (fun a _ z hz => by cases hz; rfl) ?_
    · simp only [startA, List.map_cons, List.map_nil, List.length_cons, List.length_nil, List.replicate, List.cons_append, List.nil_append, Nat.reduceAdd, Nat.reduceSub, Nat.zero_add, Nat.sub_self, List.getElem?_cons_zero, List.getElem?_cons_succ, Option.map_some, wRet, wRetN, wSeq, wNext, wDrop, wIfS, wAsg, wgN, wgTup, wgCons, wgNil, wPar, wOr, wAnd, Ab.wNot, wIf, wOp, wUn, wCB, wCons, wNil, wTup, wLst, wLstM, wV, wC, wB, wCh, Ab.wTru, wNotT, wAndT, wOrT, wSl, wNo, wSome, wCall, wIsI, wIsI2, wStrip, wRev, gPop, wDNew, wDNewM, wSlW, gSlW, gAddM, gTimes, itemsA, wML, wYes, gIn, gInS, gIx, gEqv, gLt, gOrd, gAdd, gMinus, gInt, gNeg, gIs, gSl, gLen, gAbs, gTwo, gI1, gApp, gExt, gTupOf, gListOf, gListM, ims, asQ, asT, asL, dat, tru, at0, at1, at2, id_eq, AV.und, keyA, Ab.isNon, wipeS, List.set_cons_zero, List.set_cons_succ, wgSub, gSt, retA, List.take_length, takeSet, takeSet2, List.foldl_cons, List.foldl_nil, List.zip_cons_cons, List.zip_nil_right, keepS_nil, keepS_cons, keepO_none, keepO_im, keepO_wl, List.length_set, List.length_append, List.set_set, true_and, any_pr, snocAt, snocTake, ims_map, ims_mapF, atD, Option.isSome_some, Option.isSome_none, if_true, if_false, Bool.false_eq_true, ite_true, ite_false, turnL, keyD, gSorted, nb_get ha, ims_mapF, sort_strs]
      exact ⟨alike_strs _, sortable_strs _, shallow_strs _, hk⟩
    · rw [List.filterMap_eq_map']
      generalize eF2 : (ss.map fun a => ((Sum.inr a : Key), AV.mu (m.length + ss.idxOf a))) = F2
      generalize eG : (fun a => Cell.lst ((nbrs ts a).map fun b => AV.im (PyData.str b))) = G
      refine ⟨by rw [getApp (by simp; omega)]; exact hd _ _, ?_⟩
      rw [setApp (by simp; omega), hs]
      have lenS : ∀ c : Cell, (m ++ (ss.map G ++ [Cell.lst acc, c])).length = m.length + (ss.length + 2) := fun c => by simp
      simp only [itemsA, lenS, getEnd (lenS _).symm, pairs_map, merge_map nd, if_neg (show ¬ m.length + (ss.length + 2) + 1 < m.length by omega)]
      rw [getEnd (by simp; omega)]
      refine ⟨by simp [Cell.und, AV.und], ?_⟩
      rw [List.append_assoc, List.append_assoc, List.take_append_of_le_length (Nat.le_refl _), List.take_length]
      exact q
end
end K14
end

section
set_option maxRecDepth 100000
set_option maxHeartbeats 4000000
namespace K14
open PySem PySem.Spec PyProof.Rows L2 Gd Ab
section
variable {P : Program} {w : World} {K : PySem.W.Frag} {mg : Str → Option Value} {base : Heap} {t0 : Tok}
theorem talk_symm (ts : List (Str × Str)) (a b : Str) : talk ts a b = talk ts b a := by unfold talk; rw [Bool.or_comm]
theorem talk_self {ss : List Str} {ts : List (Str × Str)} (h : NetV ss ts) (a : Str) : talk ts a a = false := by
  unfold talk
  have : (a, a) ∉ ts := fun z => (h.t _ z).2.2.ne rfl
  simp [this]
def due (ts : List (Str × Str)) (p q : Str × Int) : Bool := (decide (p.1 = q.1) && (decide (1 = p.2 - q.2) || decide (-1 = p.2 - q.2))) || (talk ts p.1 q.1 && decide (p.2 = q.2))
theorem due_adj {ss : List Str} {ts : List (Str × Str)} (h : NetV ss ts) (p q : Str × Int) : adj ts p q = due ts p q := by
  obtain ⟨a, i⟩ := p
  obtain ⟨b, j⟩ := q
  unfold adj due
  by_cases e : i = j
  · subst e; simp
  · have e1 : (if i - j < 0 then -(i - j) else i - j) = 1 ↔ (1 = i - j ∨ -1 = i - j) := by split <;> omega
    by_cases e2 : a = b
    · simp [e, e2, e1]
    · simp [e, e2]
theorem due_symm (ts : List (Str × Str)) (p q : Str × Int) : due ts p q = due ts q p := by
  obtain ⟨a, i⟩ := p
  obtain ⟨b, j⟩ := q
  unfold due
  have e1 : (1 = i - j) ↔ (-1 = j - i) := by omega
  have e2 : (-1 = i - j) ↔ (1 = j - i) := by omega
  rw [talk_symm ts b a]
  simp only [e1, e2, eq_comm (a := b), eq_comm (a := j)]
  rw [Bool.or_comm (decide (-1 = j - i))]
theorem any_pm (d : Int) : ([PyData.int 1, PyData.int (-1)].any fun y => PyData.eqv y (.int d)) = (decide (1 = d) || decide (-1 = d)) := by
  simp only [List.any_cons, List.any_nil, Bool.or_false, PyData.eqv]
  rfl
theorem look_beside {ss : List Str} {ts : List (Str × Str)} {a : Str} (h : a ∈ ss) : lookA (besideC ss ts) (.inr a) = some (.wl ((nbS ts a).map .str)) := look_map h
theorem mem_nbS {ss : List Str} {ts : List (Str × Str)} (h : NetV ss ts) {a b : Str} : b ∈ nbS ts a ↔ talk ts a b = true := (List.mergeSort_perm _ _).mem_iff.trans (mem_nbrs fun t ht => (h.t t ht).2.2.ne)
theorem nbS_ok {ss : List Str} {ts : List (Str × Str)} (h : NetV ss ts) {a : Str} : ∀ b ∈ nbS ts a, okS b := fun b hb => by
  have := (mem_nbS h).mp hb
  unfold talk at this
  rw [Bool.or_eq_true, decide_eq_true_eq, decide_eq_true_eq] at this
  rcases this with z | z
  · exact (h.s _ (h.t _ z).2.1).ok
  · exact (h.s _ (h.t _ z).1).ok
theorem look_int (i : Int) : Look (.int i) := ⟨rfl, by simp [PyData.depth]⟩
theorem use_adj {ss : List Str} {ts : List (Str × Str)} {p q : Str × Int} {m : Store} {P : AV → Store → Prop} {E : Er → Store → Prop} (h : NetV ss ts) (hp : p.1 ∈ ss) (hq : q.1 ∈ ss) (k : P (.im (.bool (due ts p q))) m) : aAdj [.im (netD ss ts), .im (nodeE p), .im (nodeE q)] m P E :=
  ⟨[netD ss ts, nodeE p, nodeE q], _, rfl, ⟨ss, ts, p, q, rfl, h.ok, (h.s _ hp).ok, (h.s _ hq).ok, rfl⟩, by rw [due_adj h]; exact k⟩
theorem due_self {ss : List Str} {ts : List (Str × Str)} (h : NetV ss ts) (p : Str × Int) : due ts p p = false := by
  unfold due
  have e1 : ¬ (1 = p.2 - p.2) := by omega
  have e2 : ¬ (-1 = p.2 - p.2) := by omega
  simp [e1, e2, talk_self h]
end
end K14
end

section
set_option maxRecDepth 100000
set_option maxHeartbeats 4000000
namespace K14
open PySem PySem.Spec PyProof.Rows L2 Gd Ab
abbrev s_is_integer : Stmt := topS 1
theorem sc_is_integer : FnScope ["value"] ["value"] (defScope s_is_integer) := ⟨rfl, rfl, rfl, by decide +kernel, rfl, by decide +kernel, by decide +kernel⟩
abbrev s_is_ascending : Stmt := topS 2
theorem sc_is_ascending : FnScope ["values", "following", "value"] ["values"] (defScope s_is_ascending) := ⟨rfl, rfl, rfl, by decide +kernel, rfl, by decide +kernel, by decide +kernel⟩
abbrev s_is_node : Stmt := topS 8
theorem sc_is_node : FnScope ["services", "distance", "value", "service", "level"] ["services", "distance", "value"] (defScope s_is_node) := ⟨rfl, rfl, rfl, by decide +kernel, rfl, by decide +kernel, by decide +kernel⟩
abbrev s_is_apart : Stmt := topS 10
theorem sc_is_apart : FnScope ["network", "distance", "value", "services", "one", "other", "node"] ["network", "distance", "value"] (defScope s_is_apart) := ⟨rfl, rfl, rfl, by decide +kernel, rfl, by decide +kernel, by decide +kernel⟩
section
variable {P : Program} {w : World} {K : PySem.W.Frag} {mg : Str → Option Value} {base : Heap} {t0 : Tok}
def integerB : PyData → Bool
  | .int _ => true
  | _ => false
def aIsInt : ASp := aPure fun xs d => ∃ v, xs = [v] ∧ d = .bool (integerB v)
theorem ok_is_integer (hB : Bs mg t0) (D : Defd K mg "is_integer" s_is_integer) : Callee P w K mg base CX0 1 "is_integer" ["value"] (lift aIsInt) := by
  refine okA D sc_is_integer (fun _ _ _ _ _ _ us hl => match us, hl with | [_], _ => rfl) (fun ds m Q EA ⟨xs, d, e, ⟨_, h, _⟩, _⟩ => by rw [e, h]; rfl) fun f cdv A outer s H E B hgu hr => ?_
  refine ⟨_, _, (ss_one (s_ret (ae_and (K := K) rfl (ae_isI2 (isW kit_int) (by rfl) hB.isinstance (by decide +kernel) (ae_v (pv 0)) (pe_bltn (v := .ty "int") (by rfl) hB.int (by decide +kernel) rfl)) (ae_one (ae_not (K := K) rfl (ae_isI call_isBool (by rfl) hB.isinstance (by decide +kernel) (ae_v (pv 0)) (pe_bltn (v := .ty "bool") (by rfl) hB.bool (by decide +kernel) rfl))))))), ?_⟩
  rintro _ m Q ⟨_, _, rfl, ⟨v, rfl, rfl⟩, q⟩
  cases v <;> (simp only [startA, List.map_cons, List.map_nil, List.length_cons, List.length_nil, List.replicate, List.cons_append, List.nil_append, Nat.reduceAdd, Nat.reduceSub, Nat.zero_add, Nat.sub_self, List.getElem?_cons_zero, List.getElem?_cons_succ, Option.map_some, wRet, wRetN, wSeq, wNext, wDrop, wIfS, wAsg, wgN, wgTup, wgCons, wgNil, wPar, wOr, wAnd, Ab.wNot, wIf, wOp, wUn, wCB, wCons, wNil, wTup, wLst, wLstM, wV, wC, wB, wCh, Ab.wTru, wNotT, wAndT, wOrT, wSl, wNo, wSome, wCall, wIsI, wIsI2, wStrip, wRev, gPop, wDNew, wDNewM, wSlW, gSlW, gAddM, gTimes, itemsA, wML, wYes, gIn, gInS, gIx, gEqv, gLt, gOrd, gAdd, gMinus, gInt, gNeg, gIs, gSl, gLen, gAbs, gTwo, gI1, gApp, gExt, gTupOf, gListOf, gListM, ims, asQ, asT, asL, dat, tru, at0, at1, at2, id_eq, AV.und, keyA, Ab.isNon, wipeS, List.set_cons_zero, List.set_cons_succ, wgSub, gSt, retA, List.take_length, takeSet, takeSet2, List.foldl_cons, List.foldl_nil, List.zip_cons_cons, List.zip_nil_right, keepS_nil, keepS_cons, keepO_none, keepO_im, keepO_wl, List.length_set, List.length_append, List.set_set, true_and, any_pr, snocAt, snocTake, ims_map, ims_mapF, atD, Option.isSome_some, Option.isSome_none, if_true, if_false, Bool.false_eq_true, ite_true, ite_false, Gd.isInt, Gd.isBool, Bool.not_true, Bool.not_false]; exact q)
theorem bools_map' {α : Type} (f : α → Bool) : ∀ l : List α, bools (l.map fun a => PyData.bool (f a)) = some (l.map f)
  | [] => rfl
  | _ :: r => by rw [List.map_cons, bools, bools_map' f r]; rfl
def ascNB : List (Str × Int) → Bool
  | x :: y :: r => decide (nLt x y) && ascNB (y :: r)
  | _ => true
theorem ascNB_iff : ∀ ns : List (Str × Int), ascNB ns = true ↔ AscN ns
  | [] => by simp [ascNB]
  | [x] => by simp [ascNB]
  | x :: y :: r => by
    have ih := ascNB_iff (y :: r)
    rw [ascNB, Bool.and_eq_true, decide_eq_true_eq, ih]
    constructor
    · rintro ⟨h1, h2⟩
      refine List.pairwise_cons.mpr ⟨fun z hz => ?_, h2⟩
      rcases List.mem_cons.mp hz with e | e
      · rw [e]; exact h1
      · exact h1.tr ((List.pairwise_cons.mp h2).1 z e)
    · intro h
      have := List.pairwise_cons.mp h
      exact ⟨this.1 y List.mem_cons_self, this.2⟩
theorem zip_ascN : ∀ ns : List (Str × Int), (ns.zip ns.tail).all (fun p => decide (nLt p.1 p.2)) = ascNB ns
  | [] => rfl
  | [x] => rfl
  | x :: y :: r => by
    show (decide _ && ((y :: r).zip r).all _) = _
    rw [ascNB]
    congr 1
    exact zip_ascN (y :: r)
/-- nodes in a tuple -/
def aAsc : ASp := aPure fun xs d => ∃ ns : List (Str × Int), xs = [.tuple (ns.map nodeE)] ∧ ns.length ≤ 100000 ∧ d = .bool (ascNB ns)
theorem ok_is_ascending (hB : Bs mg t0) (D : Defd K mg "is_ascending" s_is_ascending) : Callee P w K mg base CX0 1 "is_ascending" ["values"] (lift aAsc) := by
  refine okA D sc_is_ascending (fun _ _ _ _ _ _ us hl => match us, hl with | [_], _ => rfl) (fun ds m Q EA ⟨xs, d, e, ⟨_, h, _⟩, _⟩ => by rw [e, h]; rfl) fun f cdv A outer s H E B hgu hr => ?_
  refine ⟨_, _, (ss_one (s_ret (ae_callB (ca_all rfl) (by rfl) hB.all (by decide +kernel) (al_cons (ae_lc (own := [("value", 2), ("following", 1)]) (g := (gTup K 2 (gCons (gName 2) (gCons (gName 1) gNil)))) rfl sc_is_ascending.nd (ai_zip (K := K) rfl (by rfl) hB.zip (al_cons (ae_v (pv 0)) (al_cons (ae_slice (ae_v (pv 0)) (ao_some ae_int) ao_none) al_nil))) (blkOk_by (N := ["values", "following", "value"]) (sc := defScope s_is_ascending) (by decide +kernel)) (fun _ _ _ _ _ => (by exact (g_tup (K := K) rfl rfl (gs_cons (g_name (pg_name (i := 2) sc_is_ascending.nd rfl (.inl rfl))) (gs_cons (g_name (pg_name (i := 1) sc_is_ascending.nd rfl (.inl rfl))) gs_nil))))) (own_tup (owns_cons (mono_name _) (mono_cons (mono_name _) mono_nil) (own_name (by decide)) (owns_cons (mono_name _) mono_nil (own_name (by decide)) owns_nil))) (mono_tup (mono_cons (mono_name _) (mono_cons (mono_name _) mono_nil))) (fun _ _ _ _ _ => ts_nil) (fun _ _ _ _ _ => (ae_cmp (oa_lt hr) (ae_v (pv 2)) (ae_v (pv 1)) (nomark _)))) al_nil)))), ?_⟩
  rintro _ m Q ⟨_, _, rfl, ⟨ns, rfl, hl, rfl⟩, q⟩
  have ec : cutD (ns.map nodeE) (some 1) none = ns.tail.map nodeE := by
    unfold Ab.cutD
    cases ns with
    | nil => rfl
    | cons x r =>
      have h1 : HT.sIx ((x :: r).map nodeE).length 0 (some 1) = 1 := by simp [HT.sIx]
      have h2 : HT.sIx ((x :: r).map nodeE).length ((x :: r).map nodeE).length none = r.length + 1 := by simp [HT.sIx]
      rw [h1, h2]
      show ((r.map nodeE).take (r.length + 1 - 1)) = r.map nodeE
      exact List.take_of_length_le (by rw [List.length_map]; omega)
  simp only [startA, List.map_cons, List.map_nil, List.length_cons, List.length_nil, List.replicate, List.cons_append, List.nil_append, Nat.reduceAdd, Nat.reduceSub, Nat.zero_add, Nat.sub_self, List.getElem?_cons_zero, List.getElem?_cons_succ, Option.map_some, wRet, wRetN, wSeq, wNext, wDrop, wIfS, wAsg, wgN, wgTup, wgCons, wgNil, wPar, wOr, wAnd, Ab.wNot, wIf, wOp, wUn, wCB, wCons, wNil, wTup, wLst, wLstM, wV, wC, wB, wCh, Ab.wTru, wNotT, wAndT, wOrT, wSl, wNo, wSome, wCall, wIsI, wIsI2, wStrip, wRev, gPop, wDNew, wDNewM, wSlW, gSlW, gAddM, gTimes, itemsA, wML, wYes, gIn, gInS, gIx, gEqv, gLt, gOrd, gAdd, gMinus, gInt, gNeg, gIs, gSl, gLen, gAbs, gTwo, gI1, gApp, gExt, gTupOf, gListOf, gListM, ims, asQ, asT, asL, dat, tru, at0, at1, at2, id_eq, AV.und, keyA, Ab.isNon, wipeS, List.set_cons_zero, List.set_cons_succ, wgSub, gSt, retA, List.take_length, takeSet, takeSet2, List.foldl_cons, List.foldl_nil, List.zip_cons_cons, List.zip_nil_right, keepS_nil, keepS_cons, keepO_none, keepO_im, keepO_wl, List.length_set, List.length_append, List.set_set, true_and, any_pr, snocAt, snocTake, ims_map, ims_mapF, atD, Option.isSome_some, Option.isSome_none, if_true, if_false, Bool.false_eq_true, ite_true, ite_false, wLc, wLcs, wiZip, ec, zipD]
  have hz : (ns.map nodeE).zip (ns.tail.map nodeE) = (ns.zip ns.tail).map fun p => (nodeE p.1, nodeE p.2) := by rw [List.zip_map]; rfl
  have hzl : (ns.zip ns.tail).length ≤ ns.length := by rw [List.length_zip]; omega
  rw [hz, List.map_map]
  refine ⟨by rw [sizeLine_eq, List.length_map]; omega, lc_map (ns.zip ns.tail) _ (fun p => some (.im (.bool (decide (nLt p.1 p.2))))) trivial (by simp) (fun p hp Kt hk => ?_) (fun b _ z hz => by cases hz; rfl) ?_⟩
  · simp only [startA, List.map_cons, List.map_nil, List.length_cons, List.length_nil, List.replicate, List.cons_append, List.nil_append, Nat.reduceAdd, Nat.reduceSub, Nat.zero_add, Nat.sub_self, List.getElem?_cons_zero, List.getElem?_cons_succ, Option.map_some, wRet, wRetN, wSeq, wNext, wDrop, wIfS, wAsg, wgN, wgTup, wgCons, wgNil, wPar, wOr, wAnd, Ab.wNot, wIf, wOp, wUn, wCB, wCons, wNil, wTup, wLst, wLstM, wV, wC, wB, wCh, Ab.wTru, wNotT, wAndT, wOrT, wSl, wNo, wSome, wCall, wIsI, wIsI2, wStrip, wRev, gPop, wDNew, wDNewM, wSlW, gSlW, gAddM, gTimes, itemsA, wML, wYes, gIn, gInS, gIx, gEqv, gLt, gOrd, gAdd, gMinus, gInt, gNeg, gIs, gSl, gLen, gAbs, gTwo, gI1, gApp, gExt, gTupOf, gListOf, gListM, ims, asQ, asT, asL, dat, tru, at0, at1, at2, id_eq, AV.und, keyA, Ab.isNon, wipeS, List.set_cons_zero, List.set_cons_succ, wgSub, gSt, retA, List.take_length, takeSet, takeSet2, List.foldl_cons, List.foldl_nil, List.zip_cons_cons, List.zip_nil_right, keepS_nil, keepS_cons, keepO_none, keepO_im, keepO_wl, List.length_set, List.length_append, List.set_set, true_and, any_pr, snocAt, snocTake, ims_map, ims_mapF, atD, Option.isSome_some, Option.isSome_none, if_true, if_false, Bool.false_eq_true, ite_true, ite_false, turnL, Function.comp, nLt_data]
    exact ⟨rfl, by simp, by simp [PyData.depth, PyData.depthAll], hk⟩
  · rw [List.filterMap_eq_map', ims_mapF]
    simp only [startA, List.map_cons, List.map_nil, List.length_cons, List.length_nil, List.replicate, List.cons_append, List.nil_append, Nat.reduceAdd, Nat.reduceSub, Nat.zero_add, Nat.sub_self, List.getElem?_cons_zero, List.getElem?_cons_succ, Option.map_some, wRet, wRetN, wSeq, wNext, wDrop, wIfS, wAsg, wgN, wgTup, wgCons, wgNil, wPar, wOr, wAnd, Ab.wNot, wIf, wOp, wUn, wCB, wCons, wNil, wTup, wLst, wLstM, wV, wC, wB, wCh, Ab.wTru, wNotT, wAndT, wOrT, wSl, wNo, wSome, wCall, wIsI, wIsI2, wStrip, wRev, gPop, wDNew, wDNewM, wSlW, gSlW, gAddM, gTimes, itemsA, wML, wYes, gIn, gInS, gIx, gEqv, gLt, gOrd, gAdd, gMinus, gInt, gNeg, gIs, gSl, gLen, gAbs, gTwo, gI1, gApp, gExt, gTupOf, gListOf, gListM, ims, asQ, asT, asL, dat, tru, at0, at1, at2, id_eq, AV.und, keyA, Ab.isNon, wipeS, List.set_cons_zero, List.set_cons_succ, wgSub, gSt, retA, List.take_length, takeSet, takeSet2, List.foldl_cons, List.foldl_nil, List.zip_cons_cons, List.zip_nil_right, keepS_nil, keepS_cons, keepO_none, keepO_im, keepO_wl, List.length_set, List.length_append, List.set_set, true_and, any_pr, snocAt, snocTake, ims_map, ims_mapF, atD, Option.isSome_some, Option.isSome_none, if_true, if_false, Bool.false_eq_true, ite_true, ite_false, gAll, bools_map']
    have e : ((ns.zip ns.tail).map fun p => decide (nLt p.1 p.2)).all id = ascNB ns := by rw [← zip_ascN ns, List.all_map]; rfl
    rw [e]
    simpa [startA, List.map_cons, List.map_nil, List.length_cons, List.length_nil, List.replicate, List.cons_append, List.nil_append, Nat.reduceAdd, Nat.reduceSub, Nat.zero_add, Nat.sub_self, List.getElem?_cons_zero, List.getElem?_cons_succ, Option.map_some, wRet, wRetN, wSeq, wNext, wDrop, wIfS, wAsg, wgN, wgTup, wgCons, wgNil, wPar, wOr, wAnd, Ab.wNot, wIf, wOp, wUn, wCB, wCons, wNil, wTup, wLst, wLstM, wV, wC, wB, wCh, Ab.wTru, wNotT, wAndT, wOrT, wSl, wNo, wSome, wCall, wIsI, wIsI2, wStrip, wRev, gPop, wDNew, wDNewM, wSlW, gSlW, gAddM, gTimes, itemsA, wML, wYes, gIn, gInS, gIx, gEqv, gLt, gOrd, gAdd, gMinus, gInt, gNeg, gIs, gSl, gLen, gAbs, gTwo, gI1, gApp, gExt, gTupOf, gListOf, gListM, ims, asQ, asT, asL, dat, tru, at0, at1, at2, id_eq, AV.und, keyA, Ab.isNon, wipeS, List.set_cons_zero, List.set_cons_succ, wgSub, gSt, retA, List.take_length, takeSet, takeSet2, List.foldl_cons, List.foldl_nil, List.zip_cons_cons, List.zip_nil_right, keepS_nil, keepS_cons, keepO_none, keepO_im, keepO_wl, List.length_set, List.length_append, List.set_set, true_and, any_pr, snocAt, snocTake, ims_map, ims_mapF, atD, Option.isSome_some, Option.isSome_none, if_true, if_false, Bool.false_eq_true, ite_true, ite_false] using q
/-- a level below far -/
def lvB (far : Int) : PyData → Bool
  | .int i => decide (1 ≤ i) && decide (i < far)
  | _ => false
def nodeB (tl : List Str) (far : Int) : PyData → Bool
  | .tuple [x, l] => inD x tl && lvB far l
  | _ => false
def aIsNode : ASp := aPure fun xs d => ∃ tl far v, xs = [.tuple (tl.map .str), .int far, v] ∧ d = .bool (nodeB tl far v)
theorem ok_is_node (hB : Bs mg t0) (D : Defd K mg "is_node" s_is_node) (Cis_integer : Callee P w K mg base CX0 1 "is_integer" ["value"] (lift aIsInt)) : Callee P w K mg base CX0 2 "is_node" ["services", "distance", "value"] (lift aIsNode) := by
  refine okA D sc_is_node (fun _ _ _ _ _ _ us hl => match us, hl with | [_, _, _], _ => rfl) (fun ds m Q EA ⟨xs, d, e, ⟨_, _, _, h, _⟩, _⟩ => by rw [e, h]; rfl) fun f cdv A outer s H E B hgu hr => ?_
  refine ⟨_, _, (ss_cons (s_if (AW.at (aw_or (at_not (at_tru (K := K) rfl (ae_isI2 (isW kit_tup) (by rfl) hB.isinstance (by decide +kernel) (ae_v (pv 2)) (pe_bltn (v := .ty "tuple") (by rfl) hB.tuple (by decide +kernel) rfl)))) (aw_or1 (at_cmp (oa_ne hr) (ae_callB ca_len (by rfl) hB.len PySem.boot_len (al_cons (ae_v (pv 2)) al_nil)) ae_int (nomark _))))) (ss_one (s_ret ae_bl)) ss_nil)
        (ss_cons (s_asg (ae_v (pv 2)) (g_tup (K := K) rfl rfl (gs_cons (g_name (pg_name (i := 3) sc_is_node.nd rfl (.inl rfl))) (gs_cons (g_name (pg_name (i := 4) sc_is_node.nd rfl (.inl rfl))) gs_nil))))
        (ss_one (s_ret (ae_and (K := K) rfl (ae_cmp (oa_inS hr) (ae_v (pv 3)) (ae_v (pv 0)) (by rfl)) (ae_and (K := K) rfl (ae_call Cis_integer hgu (hr.mono (by omega)) (by rfl) pass0 (al_cons (ae_v (pv 4)) al_nil)) (ae_one (ae_ch oa_le (oa_lt hr) ae_int (ae_v (pv 4)) (ae_v (pv 1)))))))))), ?_⟩
  rintro _ m Q ⟨_, _, rfl, ⟨tl, far, v, rfl, rfl⟩, q⟩
  refine wSeq_of fun N1 n1 => ?_
  cases v with
  | tuple xs =>
    simp only [startA, List.map_cons, List.map_nil, List.length_cons, List.length_nil, List.replicate, List.cons_append, List.nil_append, Nat.reduceAdd, Nat.reduceSub, Nat.zero_add, Nat.sub_self, List.getElem?_cons_zero, List.getElem?_cons_succ, Option.map_some, wRet, wRetN, wSeq, wNext, wDrop, wIfS, wAsg, wgN, wgTup, wgCons, wgNil, wPar, wOr, wAnd, Ab.wNot, wIf, wOp, wUn, wCB, wCons, wNil, wTup, wLst, wLstM, wV, wC, wB, wCh, Ab.wTru, wNotT, wAndT, wOrT, wSl, wNo, wSome, wCall, wIsI, wIsI2, wStrip, wRev, gPop, wDNew, wDNewM, wSlW, gSlW, gAddM, gTimes, itemsA, wML, wYes, gIn, gInS, gIx, gEqv, gLt, gOrd, gAdd, gMinus, gInt, gNeg, gIs, gSl, gLen, gAbs, gTwo, gI1, gApp, gExt, gTupOf, gListOf, gListM, ims, asQ, asT, asL, dat, tru, at0, at1, at2, id_eq, AV.und, keyA, Ab.isNon, wipeS, List.set_cons_zero, List.set_cons_succ, wgSub, gSt, retA, List.take_length, takeSet, takeSet2, List.foldl_cons, List.foldl_nil, List.zip_cons_cons, List.zip_nil_right, keepS_nil, keepS_cons, keepO_none, keepO_im, keepO_wl, List.length_set, List.length_append, List.set_set, true_and, any_pr, snocAt, snocTake, ims_map, ims_mapF, atD, Option.isSome_some, Option.isSome_none, if_true, if_false, Bool.false_eq_true, ite_true, ite_false, isTup, Bool.not_true]
    by_cases h2 : xs.length = 2
    · obtain ⟨x, l, rfl⟩ : ∃ x l, xs = [x, l] := by
        match xs, h2 with
        | [x, l], _ => exact ⟨x, l, rfl⟩
      simp only [List.length_cons, List.length_nil]
      refine n1 _ _ (wSeq_of fun N2 n2 => ?_)
      simp only [startA, List.map_cons, List.map_nil, List.length_cons, List.length_nil, List.replicate, List.cons_append, List.nil_append, Nat.reduceAdd, Nat.reduceSub, Nat.zero_add, Nat.sub_self, List.getElem?_cons_zero, List.getElem?_cons_succ, Option.map_some, wRet, wRetN, wSeq, wNext, wDrop, wIfS, wAsg, wgN, wgTup, wgCons, wgNil, wPar, wOr, wAnd, Ab.wNot, wIf, wOp, wUn, wCB, wCons, wNil, wTup, wLst, wLstM, wV, wC, wB, wCh, Ab.wTru, wNotT, wAndT, wOrT, wSl, wNo, wSome, wCall, wIsI, wIsI2, wStrip, wRev, gPop, wDNew, wDNewM, wSlW, gSlW, gAddM, gTimes, itemsA, wML, wYes, gIn, gInS, gIx, gEqv, gLt, gOrd, gAdd, gMinus, gInt, gNeg, gIs, gSl, gLen, gAbs, gTwo, gI1, gApp, gExt, gTupOf, gListOf, gListM, ims, asQ, asT, asL, dat, tru, at0, at1, at2, id_eq, AV.und, keyA, Ab.isNon, wipeS, List.set_cons_zero, List.set_cons_succ, wgSub, gSt, retA, List.take_length, takeSet, takeSet2, List.foldl_cons, List.foldl_nil, List.zip_cons_cons, List.zip_nil_right, keepS_nil, keepS_cons, keepO_none, keepO_im, keepO_wl, List.length_set, List.length_append, List.set_set, true_and, any_pr, snocAt, snocTake, ims_map, ims_mapF, atD, Option.isSome_some, Option.isSome_none, if_true, if_false, Bool.false_eq_true, ite_true, ite_false]
      refine ⟨rfl, n2 _ _ ?_⟩
      have q : Q (.im (.bool (inD x tl && lvB far l))) m := q
      simp only [startA, List.map_cons, List.map_nil, List.length_cons, List.length_nil, List.replicate, List.cons_append, List.nil_append, Nat.reduceAdd, Nat.reduceSub, Nat.zero_add, Nat.sub_self, List.getElem?_cons_zero, List.getElem?_cons_succ, Option.map_some, wRet, wRetN, wSeq, wNext, wDrop, wIfS, wAsg, wgN, wgTup, wgCons, wgNil, wPar, wOr, wAnd, Ab.wNot, wIf, wOp, wUn, wCB, wCons, wNil, wTup, wLst, wLstM, wV, wC, wB, wCh, Ab.wTru, wNotT, wAndT, wOrT, wSl, wNo, wSome, wCall, wIsI, wIsI2, wStrip, wRev, gPop, wDNew, wDNewM, wSlW, gSlW, gAddM, gTimes, itemsA, wML, wYes, gIn, gInS, gIx, gEqv, gLt, gOrd, gAdd, gMinus, gInt, gNeg, gIs, gSl, gLen, gAbs, gTwo, gI1, gApp, gExt, gTupOf, gListOf, gListM, ims, asQ, asT, asL, dat, tru, at0, at1, at2, id_eq, AV.und, keyA, Ab.isNon, wipeS, List.set_cons_zero, List.set_cons_succ, wgSub, gSt, retA, List.take_length, takeSet, takeSet2, List.foldl_cons, List.foldl_nil, List.zip_cons_cons, List.zip_nil_right, keepS_nil, keepS_cons, keepO_none, keepO_im, keepO_wl, List.length_set, List.length_append, List.set_set, true_and, any_pr, snocAt, snocTake, ims_map, ims_mapF, atD, Option.isSome_some, Option.isSome_none, if_true, if_false, Bool.false_eq_true, ite_true, ite_false]
      refine ⟨tl, rfl, ?_⟩
      cases hx : inD x tl with
      | false => rw [hx, Bool.false_and] at q; simpa [startA, List.map_cons, List.map_nil, List.length_cons, List.length_nil, List.replicate, List.cons_append, List.nil_append, Nat.reduceAdd, Nat.reduceSub, Nat.zero_add, Nat.sub_self, List.getElem?_cons_zero, List.getElem?_cons_succ, Option.map_some, wRet, wRetN, wSeq, wNext, wDrop, wIfS, wAsg, wgN, wgTup, wgCons, wgNil, wPar, wOr, wAnd, Ab.wNot, wIf, wOp, wUn, wCB, wCons, wNil, wTup, wLst, wLstM, wV, wC, wB, wCh, Ab.wTru, wNotT, wAndT, wOrT, wSl, wNo, wSome, wCall, wIsI, wIsI2, wStrip, wRev, gPop, wDNew, wDNewM, wSlW, gSlW, gAddM, gTimes, itemsA, wML, wYes, gIn, gInS, gIx, gEqv, gLt, gOrd, gAdd, gMinus, gInt, gNeg, gIs, gSl, gLen, gAbs, gTwo, gI1, gApp, gExt, gTupOf, gListOf, gListM, ims, asQ, asT, asL, dat, tru, at0, at1, at2, id_eq, AV.und, keyA, Ab.isNon, wipeS, List.set_cons_zero, List.set_cons_succ, wgSub, gSt, retA, List.take_length, takeSet, takeSet2, List.foldl_cons, List.foldl_nil, List.zip_cons_cons, List.zip_nil_right, keepS_nil, keepS_cons, keepO_none, keepO_im, keepO_wl, List.length_set, List.length_append, List.set_set, true_and, any_pr, snocAt, snocTake, ims_map, ims_mapF, atD, Option.isSome_some, Option.isSome_none, if_true, if_false, Bool.false_eq_true, ite_true, ite_false] using q
      | true =>
        rw [hx, Bool.true_and] at q
        simp only [startA, List.map_cons, List.map_nil, List.length_cons, List.length_nil, List.replicate, List.cons_append, List.nil_append, Nat.reduceAdd, Nat.reduceSub, Nat.zero_add, Nat.sub_self, List.getElem?_cons_zero, List.getElem?_cons_succ, Option.map_some, wRet, wRetN, wSeq, wNext, wDrop, wIfS, wAsg, wgN, wgTup, wgCons, wgNil, wPar, wOr, wAnd, Ab.wNot, wIf, wOp, wUn, wCB, wCons, wNil, wTup, wLst, wLstM, wV, wC, wB, wCh, Ab.wTru, wNotT, wAndT, wOrT, wSl, wNo, wSome, wCall, wIsI, wIsI2, wStrip, wRev, gPop, wDNew, wDNewM, wSlW, gSlW, gAddM, gTimes, itemsA, wML, wYes, gIn, gInS, gIx, gEqv, gLt, gOrd, gAdd, gMinus, gInt, gNeg, gIs, gSl, gLen, gAbs, gTwo, gI1, gApp, gExt, gTupOf, gListOf, gListM, ims, asQ, asT, asL, dat, tru, at0, at1, at2, id_eq, AV.und, keyA, Ab.isNon, wipeS, List.set_cons_zero, List.set_cons_succ, wgSub, gSt, retA, List.take_length, takeSet, takeSet2, List.foldl_cons, List.foldl_nil, List.zip_cons_cons, List.zip_nil_right, keepS_nil, keepS_cons, keepO_none, keepO_im, keepO_wl, List.length_set, List.length_append, List.set_set, true_and, any_pr, snocAt, snocTake, ims_map, ims_mapF, atD, Option.isSome_some, Option.isSome_none, if_true, if_false, Bool.false_eq_true, ite_true, ite_false]
        refine ⟨[l], _, rfl, ⟨l, rfl, rfl⟩, ?_⟩
        cases l with
        | int i =>
          have q : Q (.im (.bool (decide (1 ≤ i) && decide (i < far)))) m := q
          simp only [startA, List.map_cons, List.map_nil, List.length_cons, List.length_nil, List.replicate, List.cons_append, List.nil_append, Nat.reduceAdd, Nat.reduceSub, Nat.zero_add, Nat.sub_self, List.getElem?_cons_zero, List.getElem?_cons_succ, Option.map_some, wRet, wRetN, wSeq, wNext, wDrop, wIfS, wAsg, wgN, wgTup, wgCons, wgNil, wPar, wOr, wAnd, Ab.wNot, wIf, wOp, wUn, wCB, wCons, wNil, wTup, wLst, wLstM, wV, wC, wB, wCh, Ab.wTru, wNotT, wAndT, wOrT, wSl, wNo, wSome, wCall, wIsI, wIsI2, wStrip, wRev, gPop, wDNew, wDNewM, wSlW, gSlW, gAddM, gTimes, itemsA, wML, wYes, gIn, gInS, gIx, gEqv, gLt, gOrd, gAdd, gMinus, gInt, gNeg, gIs, gSl, gLen, gAbs, gTwo, gI1, gApp, gExt, gTupOf, gListOf, gListM, ims, asQ, asT, asL, dat, tru, at0, at1, at2, id_eq, AV.und, keyA, Ab.isNon, wipeS, List.set_cons_zero, List.set_cons_succ, wgSub, gSt, retA, List.take_length, takeSet, takeSet2, List.foldl_cons, List.foldl_nil, List.zip_cons_cons, List.zip_nil_right, keepS_nil, keepS_cons, keepO_none, keepO_im, keepO_wl, List.length_set, List.length_append, List.set_set, true_and, any_pr, snocAt, snocTake, ims_map, ims_mapF, atD, Option.isSome_some, Option.isSome_none, if_true, if_false, Bool.false_eq_true, ite_true, ite_false, integerB]
          cases c : decide (1 ≤ i) with
          | false => rw [c, Bool.false_and] at q; simpa [startA, List.map_cons, List.map_nil, List.length_cons, List.length_nil, List.replicate, List.cons_append, List.nil_append, Nat.reduceAdd, Nat.reduceSub, Nat.zero_add, Nat.sub_self, List.getElem?_cons_zero, List.getElem?_cons_succ, Option.map_some, wRet, wRetN, wSeq, wNext, wDrop, wIfS, wAsg, wgN, wgTup, wgCons, wgNil, wPar, wOr, wAnd, Ab.wNot, wIf, wOp, wUn, wCB, wCons, wNil, wTup, wLst, wLstM, wV, wC, wB, wCh, Ab.wTru, wNotT, wAndT, wOrT, wSl, wNo, wSome, wCall, wIsI, wIsI2, wStrip, wRev, gPop, wDNew, wDNewM, wSlW, gSlW, gAddM, gTimes, itemsA, wML, wYes, gIn, gInS, gIx, gEqv, gLt, gOrd, gAdd, gMinus, gInt, gNeg, gIs, gSl, gLen, gAbs, gTwo, gI1, gApp, gExt, gTupOf, gListOf, gListM, ims, asQ, asT, asL, dat, tru, at0, at1, at2, id_eq, AV.und, keyA, Ab.isNon, wipeS, List.set_cons_zero, List.set_cons_succ, wgSub, gSt, retA, List.take_length, takeSet, takeSet2, List.foldl_cons, List.foldl_nil, List.zip_cons_cons, List.zip_nil_right, keepS_nil, keepS_cons, keepO_none, keepO_im, keepO_wl, List.length_set, List.length_append, List.set_set, true_and, any_pr, snocAt, snocTake, ims_map, ims_mapF, atD, Option.isSome_some, Option.isSome_none, if_true, if_false, Bool.false_eq_true, ite_true, ite_false] using q
          | true => rw [c, Bool.true_and] at q; simpa [startA, List.map_cons, List.map_nil, List.length_cons, List.length_nil, List.replicate, List.cons_append, List.nil_append, Nat.reduceAdd, Nat.reduceSub, Nat.zero_add, Nat.sub_self, List.getElem?_cons_zero, List.getElem?_cons_succ, Option.map_some, wRet, wRetN, wSeq, wNext, wDrop, wIfS, wAsg, wgN, wgTup, wgCons, wgNil, wPar, wOr, wAnd, Ab.wNot, wIf, wOp, wUn, wCB, wCons, wNil, wTup, wLst, wLstM, wV, wC, wB, wCh, Ab.wTru, wNotT, wAndT, wOrT, wSl, wNo, wSome, wCall, wIsI, wIsI2, wStrip, wRev, gPop, wDNew, wDNewM, wSlW, gSlW, gAddM, gTimes, itemsA, wML, wYes, gIn, gInS, gIx, gEqv, gLt, gOrd, gAdd, gMinus, gInt, gNeg, gIs, gSl, gLen, gAbs, gTwo, gI1, gApp, gExt, gTupOf, gListOf, gListM, ims, asQ, asT, asL, dat, tru, at0, at1, at2, id_eq, AV.und, keyA, Ab.isNon, wipeS, List.set_cons_zero, List.set_cons_succ, wgSub, gSt, retA, List.take_length, takeSet, takeSet2, List.foldl_cons, List.foldl_nil, List.zip_cons_cons, List.zip_nil_right, keepS_nil, keepS_cons, keepO_none, keepO_im, keepO_wl, List.length_set, List.length_append, List.set_set, true_and, any_pr, snocAt, snocTake, ims_map, ims_mapF, atD, Option.isSome_some, Option.isSome_none, if_true, if_false, Bool.false_eq_true, ite_true, ite_false] using q
        | _ => simp only [startA, List.map_cons, List.map_nil, List.length_cons, List.length_nil, List.replicate, List.cons_append, List.nil_append, Nat.reduceAdd, Nat.reduceSub, Nat.zero_add, Nat.sub_self, List.getElem?_cons_zero, List.getElem?_cons_succ, Option.map_some, wRet, wRetN, wSeq, wNext, wDrop, wIfS, wAsg, wgN, wgTup, wgCons, wgNil, wPar, wOr, wAnd, Ab.wNot, wIf, wOp, wUn, wCB, wCons, wNil, wTup, wLst, wLstM, wV, wC, wB, wCh, Ab.wTru, wNotT, wAndT, wOrT, wSl, wNo, wSome, wCall, wIsI, wIsI2, wStrip, wRev, gPop, wDNew, wDNewM, wSlW, gSlW, gAddM, gTimes, itemsA, wML, wYes, gIn, gInS, gIx, gEqv, gLt, gOrd, gAdd, gMinus, gInt, gNeg, gIs, gSl, gLen, gAbs, gTwo, gI1, gApp, gExt, gTupOf, gListOf, gListM, ims, asQ, asT, asL, dat, tru, at0, at1, at2, id_eq, AV.und, keyA, Ab.isNon, wipeS, List.set_cons_zero, List.set_cons_succ, wgSub, gSt, retA, List.take_length, takeSet, takeSet2, List.foldl_cons, List.foldl_nil, List.zip_cons_cons, List.zip_nil_right, keepS_nil, keepS_cons, keepO_none, keepO_im, keepO_wl, List.length_set, List.length_append, List.set_set, true_and, any_pr, snocAt, snocTake, ims_map, ims_mapF, atD, Option.isSome_some, Option.isSome_none, if_true, if_false, Bool.false_eq_true, ite_true, ite_false, integerB]; exact q
    · have e : nodeB tl far (.tuple xs) = false := by
        unfold nodeB
        split
        · rename_i h; cases h; exact absurd rfl h2
        · rfl
      rw [e] at q
      have h3 : ¬ ((xs.length : Int) = 2) := by omega
      simp only [h3, decide_false, Bool.not_false, if_true]
      exact q
  | _ => simp only [startA, List.map_cons, List.map_nil, List.length_cons, List.length_nil, List.replicate, List.cons_append, List.nil_append, Nat.reduceAdd, Nat.reduceSub, Nat.zero_add, Nat.sub_self, List.getElem?_cons_zero, List.getElem?_cons_succ, Option.map_some, wRet, wRetN, wSeq, wNext, wDrop, wIfS, wAsg, wgN, wgTup, wgCons, wgNil, wPar, wOr, wAnd, Ab.wNot, wIf, wOp, wUn, wCB, wCons, wNil, wTup, wLst, wLstM, wV, wC, wB, wCh, Ab.wTru, wNotT, wAndT, wOrT, wSl, wNo, wSome, wCall, wIsI, wIsI2, wStrip, wRev, gPop, wDNew, wDNewM, wSlW, gSlW, gAddM, gTimes, itemsA, wML, wYes, gIn, gInS, gIx, gEqv, gLt, gOrd, gAdd, gMinus, gInt, gNeg, gIs, gSl, gLen, gAbs, gTwo, gI1, gApp, gExt, gTupOf, gListOf, gListM, ims, asQ, asT, asL, dat, tru, at0, at1, at2, id_eq, AV.und, keyA, Ab.isNon, wipeS, List.set_cons_zero, List.set_cons_succ, wgSub, gSt, retA, List.take_length, takeSet, takeSet2, List.foldl_cons, List.foldl_nil, List.zip_cons_cons, List.zip_nil_right, keepS_nil, keepS_cons, keepO_none, keepO_im, keepO_wl, List.length_set, List.length_append, List.set_set, true_and, any_pr, snocAt, snocTake, ims_map, ims_mapF, atD, Option.isSome_some, Option.isSome_none, if_true, if_false, Bool.false_eq_true, ite_true, ite_false, isTup, Bool.not_false]; exact q
def toN : PyData → Str × Int
  | .tuple [.str x, .int i] => (x, i)
  | _ => ("", 0)
theorem toN_map (ns : List (Str × Int)) : (ns.map nodeE).map toN = ns := by
  rw [List.map_map]
  have : toN ∘ nodeE = id := by funext p; rfl
  rw [this, List.map_id]
theorem node_of {tl : List Str} {far : Int} {v : PyData} (h : nodeB tl far v = true) : ∃ n : Str × Int, v = nodeE n ∧ n.1 ∈ tl ∧ 1 ≤ n.2 ∧ n.2 < far := by
  unfold nodeB at h
  split at h
  · rename_i x l
    rw [Bool.and_eq_true] at h
    obtain ⟨h1, h2⟩ := h
    unfold inD at h1
    unfold lvB at h2
    split at h1
    · rename_i x
      split at h2
      · rename_i i
        rw [Bool.and_eq_true, decide_eq_true_eq, decide_eq_true_eq] at h2
        exact ⟨(x, i), rfl, by simpa using h1, h2.1, h2.2⟩
      · cases h2
    · cases h1
  · cases h
theorem nodes_all {tl : List Str} {far : Int} : ∀ {xs : List PyData}, xs.all (nodeB tl far) = true → ∃ ns : List (Str × Int), xs = ns.map nodeE ∧ ∀ n ∈ ns, n.1 ∈ tl ∧ 1 ≤ n.2 ∧ n.2 < far
  | [], _ => ⟨[], rfl, fun _ h => by cases h⟩
  | x :: r, h => by
    rw [List.all_cons, Bool.and_eq_true] at h
    obtain ⟨n, rfl, hn⟩ := node_of h.1
    obtain ⟨ns, rfl, hs⟩ := nodes_all h.2
    exact ⟨n :: ns, rfl, fun z hz => by
      rcases List.mem_cons.mp hz with e | e
      · rw [e]; exact hn
      · exact hs z e⟩
def anyAdj (ts : List (Str × Str)) (ns : List (Str × Int)) : Bool := ns.any fun p => ns.any fun q => due ts p q
def apartB (ss : List Str) (ts : List (Str × Str)) (far : Int) : PyData → Bool
  | .tuple xs => xs.all (nodeB (talkers ss ts) far) && (ascNB (xs.map toN) && !anyAdj ts (xs.map toN))
  | _ => false
def aApart : ASp := fun ds m P EA => aPure (fun xs d => ∃ ss ts far v, xs = [netD ss ts, .int far, v] ∧ NetV ss ts ∧ tupL v ≤ 1000 ∧ d = .bool (apartB ss ts far v)) ds m P EA ∨ ∃ (ss : List Str) (ts : List (Str × Str)) (far : Int) (zs : List PyData), ds = [.im (netD ss ts), .im (.int far), .wl zs] ∧ NetV ss ts ∧ P (.im (.bool false)) m
theorem ok_is_apart (hB : Bs mg t0) (D : Defd K mg "is_apart" s_is_apart) (Ctalking : Callee P w K mg base CX0 3 "talking" ["network"] (lift aTalking)) (Cis_node : Callee P w K mg base CX0 2 "is_node" ["services", "distance", "value"] (lift aIsNode)) (Cis_ascending : Callee P w K mg base CX0 1 "is_ascending" ["values"] (lift aAsc)) (Care_adjacent : Callee P w K mg base CX0 2 "are_adjacent" ["network", "one", "other"] (lift aAdj)) :
    Callee P w K mg base CX0 4 "is_apart" ["network", "distance", "value"] (lift aApart) := by
  refine okA D sc_is_apart (fun _ _ _ _ _ _ us hl => match us, hl with | [_, _, _], _ => rfl) (fun ds m Q EA h => by rcases h with ⟨xs, d, e, ⟨_, _, _, _, h, _⟩, _⟩ | ⟨_, _, _, _, e, _⟩ <;> (rw [e]; first | rfl | (rw [h]; rfl))) fun f cdv A outer s H E B hgu hr => ?_
  refine ⟨_, _, (ss_cons (s_set (i := 3) sc_is_apart.nd rfl (.inr rfl) (ae_call Ctalking hgu (hr.mono (by omega)) (by rfl) pass0 (al_cons (ae_v (pv 0)) al_nil)))
        (ss_cons (s_if (AW.at (aw_or (at_not (at_tru (K := K) rfl (ae_isI2 (isW kit_tup) (by rfl) hB.isinstance (by decide +kernel) (ae_v (pv 2)) (pe_bltn (v := .ty "tuple") (by rfl) hB.tuple (by decide +kernel) rfl)))) (aw_or1 (at_not (at_tru (K := K) rfl (ae_callB (ca_all rfl) (by rfl) hB.all (by decide +kernel) (al_cons (ae_lc (own := [("node", 6)]) (g := (gName 6)) rfl sc_is_apart.nd (ai_any (K := K) rfl (ae_v (pv 2))) (blkOk_by (N := ["network", "distance", "value", "services", "one", "other", "node"]) (sc := defScope s_is_apart) (by decide +kernel)) (fun _ _ _ _ _ => (g_name (pg_name (i := 6) sc_is_apart.nd rfl (.inl rfl)))) (own_name (by decide)) (mono_name _) (fun _ _ _ _ _ => ts_nil) (fun _ _ _ _ _ => (ae_call Cis_node hgu (hr.mono (by omega)) (by rfl) pass0 (al_cons (ae_v (pv 3)) (al_cons (ae_v (pv 1)) (al_cons (ae_v (pv 6)) al_nil)))))) al_nil))))))) (ss_one (s_ret ae_bl)) ss_nil)
        (ss_cons (s_if (at_not (at_tru (K := K) rfl (ae_call Cis_ascending hgu (hr.mono (by omega)) (by rfl) pass0 (al_cons (ae_v (pv 2)) al_nil)))) (ss_one (s_ret ae_bl)) ss_nil)
        (ss_one (s_ret (ae_not (K := K) rfl (ae_callB (ca_any rfl) (by rfl) hB.any (by decide +kernel) (al_cons (ae_lc2 (own := [("one", 4), ("other", 5)]) (vs1 := [5]) (g := (gName 4)) (g1 := (gName 5)) rfl sc_is_apart.nd (ai_any (K := K) rfl (ae_v (pv 2))) (blkOk_by (N := ["network", "distance", "value", "services", "one", "other", "node"]) (sc := defScope s_is_apart) (by decide +kernel)) (by decide) (fun _ _ _ _ _ => (g_name (pg_name (i := 4) sc_is_apart.nd rfl (.inl rfl)))) (own_name (by decide)) (mono_name _) (fun _ _ _ _ _ => ts_nil) (fun _ _ _ _ _ => (ai_any (K := K) rfl (ae_v (pv 2)))) (fun _ _ _ _ _ => (g_name (pg_name (i := 5) sc_is_apart.nd rfl (.inl rfl)))) (own_name (by decide)) (mono_name _) (fun _ _ _ _ _ => ts_nil) (fun _ _ _ _ _ => (ae_call Care_adjacent hgu (hr.mono (by omega)) (by rfl) pass0 (al_cons (ae_v (pv 0)) (al_cons (ae_v (pv 4)) (al_cons (ae_v (pv 5)) al_nil)))))) al_nil)))))))), ?_⟩
  rintro _ m Q (⟨_, _, rfl, ⟨ss, ts, far, v, rfl, nv, hv, rfl⟩, q⟩ | ⟨ss, ts, far, zs, rfl, nv, q⟩)
  rotate_left
  · refine wSeq_of fun N1 n1 => ?_
    simp only [startA, List.map_cons, List.map_nil, List.length_cons, List.length_nil, List.replicate, List.cons_append, List.nil_append, Nat.reduceAdd, Nat.reduceSub, Nat.zero_add, Nat.sub_self, List.getElem?_cons_zero, List.getElem?_cons_succ, Option.map_some, wRet, wRetN, wSeq, wNext, wDrop, wIfS, wAsg, wgN, wgTup, wgCons, wgNil, wPar, wOr, wAnd, Ab.wNot, wIf, wOp, wUn, wCB, wCons, wNil, wTup, wLst, wLstM, wV, wC, wB, wCh, Ab.wTru, wNotT, wAndT, wOrT, wSl, wNo, wSome, wCall, wIsI, wIsI2, wStrip, wRev, gPop, wDNew, wDNewM, wSlW, gSlW, gAddM, gTimes, itemsA, wML, wYes, gIn, gInS, gIx, gEqv, gLt, gOrd, gAdd, gMinus, gInt, gNeg, gIs, gSl, gLen, gAbs, gTwo, gI1, gApp, gExt, gTupOf, gListOf, gListM, ims, asQ, asT, asL, dat, tru, at0, at1, at2, id_eq, AV.und, keyA, Ab.isNon, wipeS, List.set_cons_zero, List.set_cons_succ, wgSub, gSt, retA, List.take_length, takeSet, takeSet2, List.foldl_cons, List.foldl_nil, List.zip_cons_cons, List.zip_nil_right, keepS_nil, keepS_cons, keepO_none, keepO_im, keepO_wl, List.length_set, List.length_append, List.set_set, true_and, any_pr, snocAt, snocTake, ims_map, ims_mapF, atD, Option.isSome_some, Option.isSome_none, if_true, if_false, Bool.false_eq_true, ite_true, ite_false]
    refine ⟨[netD ss ts], _, rfl, ⟨ss, ts, rfl, nv.ok, rfl⟩, n1 _ _ (wSeq_of fun N2 n2 => ?_)⟩
    simp only [startA, List.map_cons, List.map_nil, List.length_cons, List.length_nil, List.replicate, List.cons_append, List.nil_append, Nat.reduceAdd, Nat.reduceSub, Nat.zero_add, Nat.sub_self, List.getElem?_cons_zero, List.getElem?_cons_succ, Option.map_some, wRet, wRetN, wSeq, wNext, wDrop, wIfS, wAsg, wgN, wgTup, wgCons, wgNil, wPar, wOr, wAnd, Ab.wNot, wIf, wOp, wUn, wCB, wCons, wNil, wTup, wLst, wLstM, wV, wC, wB, wCh, Ab.wTru, wNotT, wAndT, wOrT, wSl, wNo, wSome, wCall, wIsI, wIsI2, wStrip, wRev, gPop, wDNew, wDNewM, wSlW, gSlW, gAddM, gTimes, itemsA, wML, wYes, gIn, gInS, gIx, gEqv, gLt, gOrd, gAdd, gMinus, gInt, gNeg, gIs, gSl, gLen, gAbs, gTwo, gI1, gApp, gExt, gTupOf, gListOf, gListM, ims, asQ, asT, asL, dat, tru, at0, at1, at2, id_eq, AV.und, keyA, Ab.isNon, wipeS, List.set_cons_zero, List.set_cons_succ, wgSub, gSt, retA, List.take_length, takeSet, takeSet2, List.foldl_cons, List.foldl_nil, List.zip_cons_cons, List.zip_nil_right, keepS_nil, keepS_cons, keepO_none, keepO_im, keepO_wl, List.length_set, List.length_append, List.set_set, true_and, any_pr, snocAt, snocTake, ims_map, ims_mapF, atD, Option.isSome_some, Option.isSome_none, if_true, if_false, Bool.false_eq_true, ite_true, ite_false, isTup, Bool.not_false, if_true]
    exact q
  refine wSeq_of fun N1 n1 => ?_
  simp only [startA, List.map_cons, List.map_nil, List.length_cons, List.length_nil, List.replicate, List.cons_append, List.nil_append, Nat.reduceAdd, Nat.reduceSub, Nat.zero_add, Nat.sub_self, List.getElem?_cons_zero, List.getElem?_cons_succ, Option.map_some, wRet, wRetN, wSeq, wNext, wDrop, wIfS, wAsg, wgN, wgTup, wgCons, wgNil, wPar, wOr, wAnd, Ab.wNot, wIf, wOp, wUn, wCB, wCons, wNil, wTup, wLst, wLstM, wV, wC, wB, wCh, Ab.wTru, wNotT, wAndT, wOrT, wSl, wNo, wSome, wCall, wIsI, wIsI2, wStrip, wRev, gPop, wDNew, wDNewM, wSlW, gSlW, gAddM, gTimes, itemsA, wML, wYes, gIn, gInS, gIx, gEqv, gLt, gOrd, gAdd, gMinus, gInt, gNeg, gIs, gSl, gLen, gAbs, gTwo, gI1, gApp, gExt, gTupOf, gListOf, gListM, ims, asQ, asT, asL, dat, tru, at0, at1, at2, id_eq, AV.und, keyA, Ab.isNon, wipeS, List.set_cons_zero, List.set_cons_succ, wgSub, gSt, retA, List.take_length, takeSet, takeSet2, List.foldl_cons, List.foldl_nil, List.zip_cons_cons, List.zip_nil_right, keepS_nil, keepS_cons, keepO_none, keepO_im, keepO_wl, List.length_set, List.length_append, List.set_set, true_and, any_pr, snocAt, snocTake, ims_map, ims_mapF, atD, Option.isSome_some, Option.isSome_none, if_true, if_false, Bool.false_eq_true, ite_true, ite_false]
  refine ⟨[netD ss ts], _, rfl, ⟨ss, ts, rfl, nv.ok, rfl⟩, n1 _ _ (wSeq_of fun N2 n2 => ?_)⟩
  clear n1 N1
  simp only [startA, List.map_cons, List.map_nil, List.length_cons, List.length_nil, List.replicate, List.cons_append, List.nil_append, Nat.reduceAdd, Nat.reduceSub, Nat.zero_add, Nat.sub_self, List.getElem?_cons_zero, List.getElem?_cons_succ, Option.map_some, wRet, wRetN, wSeq, wNext, wDrop, wIfS, wAsg, wgN, wgTup, wgCons, wgNil, wPar, wOr, wAnd, Ab.wNot, wIf, wOp, wUn, wCB, wCons, wNil, wTup, wLst, wLstM, wV, wC, wB, wCh, Ab.wTru, wNotT, wAndT, wOrT, wSl, wNo, wSome, wCall, wIsI, wIsI2, wStrip, wRev, gPop, wDNew, wDNewM, wSlW, gSlW, gAddM, gTimes, itemsA, wML, wYes, gIn, gInS, gIx, gEqv, gLt, gOrd, gAdd, gMinus, gInt, gNeg, gIs, gSl, gLen, gAbs, gTwo, gI1, gApp, gExt, gTupOf, gListOf, gListM, ims, asQ, asT, asL, dat, tru, at0, at1, at2, id_eq, AV.und, keyA, Ab.isNon, wipeS, List.set_cons_zero, List.set_cons_succ, wgSub, gSt, retA, List.take_length, takeSet, takeSet2, List.foldl_cons, List.foldl_nil, List.zip_cons_cons, List.zip_nil_right, keepS_nil, keepS_cons, keepO_none, keepO_im, keepO_wl, List.length_set, List.length_append, List.set_set, true_and, any_pr, snocAt, snocTake, ims_map, ims_mapF, atD, Option.isSome_some, Option.isSome_none, if_true, if_false, Bool.false_eq_true, ite_true, ite_false]
  cases v with
  | tuple xs =>
    have q : Q (.im (.bool (xs.all (nodeB (talkers ss ts) far) && (ascNB (xs.map toN) && !anyAdj ts (xs.map toN))))) m := q
    have hl : xs.length ≤ 1000 := hv
    simp only [startA, List.map_cons, List.map_nil, List.length_cons, List.length_nil, List.replicate, List.cons_append, List.nil_append, Nat.reduceAdd, Nat.reduceSub, Nat.zero_add, Nat.sub_self, List.getElem?_cons_zero, List.getElem?_cons_succ, Option.map_some, wRet, wRetN, wSeq, wNext, wDrop, wIfS, wAsg, wgN, wgTup, wgCons, wgNil, wPar, wOr, wAnd, Ab.wNot, wIf, wOp, wUn, wCB, wCons, wNil, wTup, wLst, wLstM, wV, wC, wB, wCh, Ab.wTru, wNotT, wAndT, wOrT, wSl, wNo, wSome, wCall, wIsI, wIsI2, wStrip, wRev, gPop, wDNew, wDNewM, wSlW, gSlW, gAddM, gTimes, itemsA, wML, wYes, gIn, gInS, gIx, gEqv, gLt, gOrd, gAdd, gMinus, gInt, gNeg, gIs, gSl, gLen, gAbs, gTwo, gI1, gApp, gExt, gTupOf, gListOf, gListM, ims, asQ, asT, asL, dat, tru, at0, at1, at2, id_eq, AV.und, keyA, Ab.isNon, wipeS, List.set_cons_zero, List.set_cons_succ, wgSub, gSt, retA, List.take_length, takeSet, takeSet2, List.foldl_cons, List.foldl_nil, List.zip_cons_cons, List.zip_nil_right, keepS_nil, keepS_cons, keepO_none, keepO_im, keepO_wl, List.length_set, List.length_append, List.set_set, true_and, any_pr, snocAt, snocTake, ims_map, ims_mapF, atD, Option.isSome_some, Option.isSome_none, if_true, if_false, Bool.false_eq_true, ite_true, ite_false, isTup, Bool.not_true, wLc, wLcs, wiAny, gAll]
    refine ⟨by rw [sizeLine_eq, List.length_map]; omega, lc_map xs _ (fun x => some (.im (.bool (nodeB (talkers ss ts) far x)))) trivial (by simp) (fun x hx Kt hk => ?_) (fun b _ z hz => by cases hz; rfl) ?_⟩
    · simp only [startA, List.map_cons, List.map_nil, List.length_cons, List.length_nil, List.replicate, List.cons_append, List.nil_append, Nat.reduceAdd, Nat.reduceSub, Nat.zero_add, Nat.sub_self, List.getElem?_cons_zero, List.getElem?_cons_succ, Option.map_some, wRet, wRetN, wSeq, wNext, wDrop, wIfS, wAsg, wgN, wgTup, wgCons, wgNil, wPar, wOr, wAnd, Ab.wNot, wIf, wOp, wUn, wCB, wCons, wNil, wTup, wLst, wLstM, wV, wC, wB, wCh, Ab.wTru, wNotT, wAndT, wOrT, wSl, wNo, wSome, wCall, wIsI, wIsI2, wStrip, wRev, gPop, wDNew, wDNewM, wSlW, gSlW, gAddM, gTimes, itemsA, wML, wYes, gIn, gInS, gIx, gEqv, gLt, gOrd, gAdd, gMinus, gInt, gNeg, gIs, gSl, gLen, gAbs, gTwo, gI1, gApp, gExt, gTupOf, gListOf, gListM, ims, asQ, asT, asL, dat, tru, at0, at1, at2, id_eq, AV.und, keyA, Ab.isNon, wipeS, List.set_cons_zero, List.set_cons_succ, wgSub, gSt, retA, List.take_length, takeSet, takeSet2, List.foldl_cons, List.foldl_nil, List.zip_cons_cons, List.zip_nil_right, keepS_nil, keepS_cons, keepO_none, keepO_im, keepO_wl, List.length_set, List.length_append, List.set_set, true_and, any_pr, snocAt, snocTake, ims_map, ims_mapF, atD, Option.isSome_some, Option.isSome_none, if_true, if_false, Bool.false_eq_true, ite_true, ite_false, turnL]
      exact ⟨[.tuple ((talkers ss ts).map .str), .int far, x], _, rfl, ⟨talkers ss ts, far, x, rfl, rfl⟩, hk⟩
    rw [List.filterMap_eq_map', ims_mapF]
    simp only [startA, List.map_cons, List.map_nil, List.length_cons, List.length_nil, List.replicate, List.cons_append, List.nil_append, Nat.reduceAdd, Nat.reduceSub, Nat.zero_add, Nat.sub_self, List.getElem?_cons_zero, List.getElem?_cons_succ, Option.map_some, wRet, wRetN, wSeq, wNext, wDrop, wIfS, wAsg, wgN, wgTup, wgCons, wgNil, wPar, wOr, wAnd, Ab.wNot, wIf, wOp, wUn, wCB, wCons, wNil, wTup, wLst, wLstM, wV, wC, wB, wCh, Ab.wTru, wNotT, wAndT, wOrT, wSl, wNo, wSome, wCall, wIsI, wIsI2, wStrip, wRev, gPop, wDNew, wDNewM, wSlW, gSlW, gAddM, gTimes, itemsA, wML, wYes, gIn, gInS, gIx, gEqv, gLt, gOrd, gAdd, gMinus, gInt, gNeg, gIs, gSl, gLen, gAbs, gTwo, gI1, gApp, gExt, gTupOf, gListOf, gListM, ims, asQ, asT, asL, dat, tru, at0, at1, at2, id_eq, AV.und, keyA, Ab.isNon, wipeS, List.set_cons_zero, List.set_cons_succ, wgSub, gSt, retA, List.take_length, takeSet, takeSet2, List.foldl_cons, List.foldl_nil, List.zip_cons_cons, List.zip_nil_right, keepS_nil, keepS_cons, keepO_none, keepO_im, keepO_wl, List.length_set, List.length_append, List.set_set, true_and, any_pr, snocAt, snocTake, ims_map, ims_mapF, atD, Option.isSome_some, Option.isSome_none, if_true, if_false, Bool.false_eq_true, ite_true, ite_false, bools_map']
    have e : (xs.map fun x => nodeB (talkers ss ts) far x).all id = xs.all (nodeB (talkers ss ts) far) := by rw [List.all_map]; rfl
    rw [e]
    cases ha : xs.all (nodeB (talkers ss ts) far) with
    | false =>
      rw [ha, Bool.false_and] at q
      simp only [Bool.not_false, if_true]
      exact q
    | true =>
      obtain ⟨ns, rfl, hns⟩ := nodes_all ha
      rw [ha, Bool.true_and, toN_map] at q
      rw [List.length_map] at hl
      simp only [Bool.not_true, Bool.false_eq_true, if_false]
      refine n2 _ _ (wSeq_of fun N3 n3 => ?_)
      clear n2 N2
      simp only [startA, List.map_cons, List.map_nil, List.length_cons, List.length_nil, List.replicate, List.cons_append, List.nil_append, Nat.reduceAdd, Nat.reduceSub, Nat.zero_add, Nat.sub_self, List.getElem?_cons_zero, List.getElem?_cons_succ, Option.map_some, wRet, wRetN, wSeq, wNext, wDrop, wIfS, wAsg, wgN, wgTup, wgCons, wgNil, wPar, wOr, wAnd, Ab.wNot, wIf, wOp, wUn, wCB, wCons, wNil, wTup, wLst, wLstM, wV, wC, wB, wCh, Ab.wTru, wNotT, wAndT, wOrT, wSl, wNo, wSome, wCall, wIsI, wIsI2, wStrip, wRev, gPop, wDNew, wDNewM, wSlW, gSlW, gAddM, gTimes, itemsA, wML, wYes, gIn, gInS, gIx, gEqv, gLt, gOrd, gAdd, gMinus, gInt, gNeg, gIs, gSl, gLen, gAbs, gTwo, gI1, gApp, gExt, gTupOf, gListOf, gListM, ims, asQ, asT, asL, dat, tru, at0, at1, at2, id_eq, AV.und, keyA, Ab.isNon, wipeS, List.set_cons_zero, List.set_cons_succ, wgSub, gSt, retA, List.take_length, takeSet, takeSet2, List.foldl_cons, List.foldl_nil, List.zip_cons_cons, List.zip_nil_right, keepS_nil, keepS_cons, keepO_none, keepO_im, keepO_wl, List.length_set, List.length_append, List.set_set, true_and, any_pr, snocAt, snocTake, ims_map, ims_mapF, atD, Option.isSome_some, Option.isSome_none, if_true, if_false, Bool.false_eq_true, ite_true, ite_false]
      refine ⟨[.tuple (ns.map nodeE)], _, rfl, ⟨ns, rfl, by omega, rfl⟩, ?_⟩
      cases hb : ascNB ns with
      | false =>
        rw [hb, Bool.false_and] at q
        simp only [startA, List.map_cons, List.map_nil, List.length_cons, List.length_nil, List.replicate, List.cons_append, List.nil_append, Nat.reduceAdd, Nat.reduceSub, Nat.zero_add, Nat.sub_self, List.getElem?_cons_zero, List.getElem?_cons_succ, Option.map_some, wRet, wRetN, wSeq, wNext, wDrop, wIfS, wAsg, wgN, wgTup, wgCons, wgNil, wPar, wOr, wAnd, Ab.wNot, wIf, wOp, wUn, wCB, wCons, wNil, wTup, wLst, wLstM, wV, wC, wB, wCh, Ab.wTru, wNotT, wAndT, wOrT, wSl, wNo, wSome, wCall, wIsI, wIsI2, wStrip, wRev, gPop, wDNew, wDNewM, wSlW, gSlW, gAddM, gTimes, itemsA, wML, wYes, gIn, gInS, gIx, gEqv, gLt, gOrd, gAdd, gMinus, gInt, gNeg, gIs, gSl, gLen, gAbs, gTwo, gI1, gApp, gExt, gTupOf, gListOf, gListM, ims, asQ, asT, asL, dat, tru, at0, at1, at2, id_eq, AV.und, keyA, Ab.isNon, wipeS, List.set_cons_zero, List.set_cons_succ, wgSub, gSt, retA, List.take_length, takeSet, takeSet2, List.foldl_cons, List.foldl_nil, List.zip_cons_cons, List.zip_nil_right, keepS_nil, keepS_cons, keepO_none, keepO_im, keepO_wl, List.length_set, List.length_append, List.set_set, true_and, any_pr, snocAt, snocTake, ims_map, ims_mapF, atD, Option.isSome_some, Option.isSome_none, if_true, if_false, Bool.false_eq_true, ite_true, ite_false, Bool.not_false]
        exact q
      | true =>
        rw [hb, Bool.true_and] at q
        simp only [startA, List.map_cons, List.map_nil, List.length_cons, List.length_nil, List.replicate, List.cons_append, List.nil_append, Nat.reduceAdd, Nat.reduceSub, Nat.zero_add, Nat.sub_self, List.getElem?_cons_zero, List.getElem?_cons_succ, Option.map_some, wRet, wRetN, wSeq, wNext, wDrop, wIfS, wAsg, wgN, wgTup, wgCons, wgNil, wPar, wOr, wAnd, Ab.wNot, wIf, wOp, wUn, wCB, wCons, wNil, wTup, wLst, wLstM, wV, wC, wB, wCh, Ab.wTru, wNotT, wAndT, wOrT, wSl, wNo, wSome, wCall, wIsI, wIsI2, wStrip, wRev, gPop, wDNew, wDNewM, wSlW, gSlW, gAddM, gTimes, itemsA, wML, wYes, gIn, gInS, gIx, gEqv, gLt, gOrd, gAdd, gMinus, gInt, gNeg, gIs, gSl, gLen, gAbs, gTwo, gI1, gApp, gExt, gTupOf, gListOf, gListM, ims, asQ, asT, asL, dat, tru, at0, at1, at2, id_eq, AV.und, keyA, Ab.isNon, wipeS, List.set_cons_zero, List.set_cons_succ, wgSub, gSt, retA, List.take_length, takeSet, takeSet2, List.foldl_cons, List.foldl_nil, List.zip_cons_cons, List.zip_nil_right, keepS_nil, keepS_cons, keepO_none, keepO_im, keepO_wl, List.length_set, List.length_append, List.set_set, true_and, any_pr, snocAt, snocTake, ims_map, ims_mapF, atD, Option.isSome_some, Option.isSome_none, if_true, if_false, Bool.false_eq_true, ite_true, ite_false, Bool.not_true]
        refine n3 _ _ ?_
        clear n3 N3
        simp only [startA, List.map_cons, List.map_nil, List.length_cons, List.length_nil, List.replicate, List.cons_append, List.nil_append, Nat.reduceAdd, Nat.reduceSub, Nat.zero_add, Nat.sub_self, List.getElem?_cons_zero, List.getElem?_cons_succ, Option.map_some, wRet, wRetN, wSeq, wNext, wDrop, wIfS, wAsg, wgN, wgTup, wgCons, wgNil, wPar, wOr, wAnd, Ab.wNot, wIf, wOp, wUn, wCB, wCons, wNil, wTup, wLst, wLstM, wV, wC, wB, wCh, Ab.wTru, wNotT, wAndT, wOrT, wSl, wNo, wSome, wCall, wIsI, wIsI2, wStrip, wRev, gPop, wDNew, wDNewM, wSlW, gSlW, gAddM, gTimes, itemsA, wML, wYes, gIn, gInS, gIx, gEqv, gLt, gOrd, gAdd, gMinus, gInt, gNeg, gIs, gSl, gLen, gAbs, gTwo, gI1, gApp, gExt, gTupOf, gListOf, gListM, ims, asQ, asT, asL, dat, tru, at0, at1, at2, id_eq, AV.und, keyA, Ab.isNon, wipeS, List.set_cons_zero, List.set_cons_succ, wgSub, gSt, retA, List.take_length, takeSet, takeSet2, List.foldl_cons, List.foldl_nil, List.zip_cons_cons, List.zip_nil_right, keepS_nil, keepS_cons, keepO_none, keepO_im, keepO_wl, List.length_set, List.length_append, List.set_set, true_and, any_pr, snocAt, snocTake, ims_map, ims_mapF, atD, Option.isSome_some, Option.isSome_none, if_true, if_false, Bool.false_eq_true, ite_true, ite_false, wLc2, wLc2s, wiAny]
        have ins : ∀ n ∈ ns, n.1 ∈ ss := fun n hn => (List.mem_filter.mp (hns n hn).1).1
        have len : (ns.flatMap fun p => ns.map fun q => AV.im (.bool (due ts p q))).length ≤ 1000 * 1000 := by
          have h3 : ∀ l : List (Str × Int), (l.flatMap fun p => ns.map fun q => AV.im (.bool (due ts p q))).length = l.length * ns.length := fun l => by
            induction l with
            | nil => simp
            | cons a r ih => rw [List.flatMap_cons, List.length_append, ih, List.length_map, List.length_cons, Nat.add_mul]; omega
          rw [h3]
          exact Nat.mul_le_mul hl hl
        rw [List.map_map]
        refine lc2_map ns _ (fun p => ns.map fun q => .im (.bool (due ts p q))) trivial (by simp) _ len (fun p hp acc Kt hl2 hk => ?_) ?_
        · simp only [startA, List.map_cons, List.map_nil, List.length_cons, List.length_nil, List.replicate, List.cons_append, List.nil_append, Nat.reduceAdd, Nat.reduceSub, Nat.zero_add, Nat.sub_self, List.getElem?_cons_zero, List.getElem?_cons_succ, Option.map_some, wRet, wRetN, wSeq, wNext, wDrop, wIfS, wAsg, wgN, wgTup, wgCons, wgNil, wPar, wOr, wAnd, Ab.wNot, wIf, wOp, wUn, wCB, wCons, wNil, wTup, wLst, wLstM, wV, wC, wB, wCh, Ab.wTru, wNotT, wAndT, wOrT, wSl, wNo, wSome, wCall, wIsI, wIsI2, wStrip, wRev, gPop, wDNew, wDNewM, wSlW, gSlW, gAddM, gTimes, itemsA, wML, wYes, gIn, gInS, gIx, gEqv, gLt, gOrd, gAdd, gMinus, gInt, gNeg, gIs, gSl, gLen, gAbs, gTwo, gI1, gApp, gExt, gTupOf, gListOf, gListM, ims, asQ, asT, asL, dat, tru, at0, at1, at2, id_eq, AV.und, keyA, Ab.isNon, wipeS, List.set_cons_zero, List.set_cons_succ, wgSub, gSt, retA, List.take_length, takeSet, takeSet2, List.foldl_cons, List.foldl_nil, List.zip_cons_cons, List.zip_nil_right, keepS_nil, keepS_cons, keepO_none, keepO_im, keepO_wl, List.length_set, List.length_append, List.set_set, true_and, any_pr, snocAt, snocTake, ims_map, ims_mapF, atD, Option.isSome_some, Option.isSome_none, if_true, if_false, Bool.false_eq_true, ite_true, ite_false, turnO, wiAny, Function.comp]
          rw [List.map_map]
          refine acc_map ns _ (fun q => some (.im (.bool (due ts p q)))) trivial (fun q hq acc' Kt' hl' hk' => ?_) ?_
          · simp only [startA, List.map_cons, List.map_nil, List.length_cons, List.length_nil, List.replicate, List.cons_append, List.nil_append, Nat.reduceAdd, Nat.reduceSub, Nat.zero_add, Nat.sub_self, List.getElem?_cons_zero, List.getElem?_cons_succ, Option.map_some, wRet, wRetN, wSeq, wNext, wDrop, wIfS, wAsg, wgN, wgTup, wgCons, wgNil, wPar, wOr, wAnd, Ab.wNot, wIf, wOp, wUn, wCB, wCons, wNil, wTup, wLst, wLstM, wV, wC, wB, wCh, Ab.wTru, wNotT, wAndT, wOrT, wSl, wNo, wSome, wCall, wIsI, wIsI2, wStrip, wRev, gPop, wDNew, wDNewM, wSlW, gSlW, gAddM, gTimes, itemsA, wML, wYes, gIn, gInS, gIx, gEqv, gLt, gOrd, gAdd, gMinus, gInt, gNeg, gIs, gSl, gLen, gAbs, gTwo, gI1, gApp, gExt, gTupOf, gListOf, gListM, ims, asQ, asT, asL, dat, tru, at0, at1, at2, id_eq, AV.und, keyA, Ab.isNon, wipeS, List.set_cons_zero, List.set_cons_succ, wgSub, gSt, retA, List.take_length, takeSet, takeSet2, List.foldl_cons, List.foldl_nil, List.zip_cons_cons, List.zip_nil_right, keepS_nil, keepS_cons, keepO_none, keepO_im, keepO_wl, List.length_set, List.length_append, List.set_set, true_and, any_pr, snocAt, snocTake, ims_map, ims_mapF, atD, Option.isSome_some, Option.isSome_none, if_true, if_false, Bool.false_eq_true, ite_true, ite_false, turnI, Function.comp]
            refine use_adj nv (ins p hp) (ins q hq) ?_
            simp only [List.length_map] at hl2
            exact ⟨rfl, by rw [sizeLine_eq]; omega, hk'⟩
          · rw [List.filterMap_eq_map']; exact hk
        · have e2 : (ns.flatMap fun p => ns.map fun q => AV.im (.bool (due ts p q))) = ((ns.flatMap fun p => ns.map fun q => due ts p q).map .bool).map .im := by
            rw [List.map_flatMap, List.map_flatMap]
            simp only [List.map_map]; rfl
          have e3 : (ns.flatMap fun p => ns.map fun q => due ts p q).any id = anyAdj ts ns := by
            unfold anyAdj
            rw [List.any_flatMap]
            simp only [List.any_map]; rfl
          have e4 := bools_map' (fun b : Bool => b) (ns.flatMap fun p => ns.map fun q => due ts p q)
          rw [List.map_id'] at e4
          rw [e2, ims_map]
          simp only [gAll, asL, e4, e3, List.take_length]
          exact q
  | _ => simp only [startA, List.map_cons, List.map_nil, List.length_cons, List.length_nil, List.replicate, List.cons_append, List.nil_append, Nat.reduceAdd, Nat.reduceSub, Nat.zero_add, Nat.sub_self, List.getElem?_cons_zero, List.getElem?_cons_succ, Option.map_some, wRet, wRetN, wSeq, wNext, wDrop, wIfS, wAsg, wgN, wgTup, wgCons, wgNil, wPar, wOr, wAnd, Ab.wNot, wIf, wOp, wUn, wCB, wCons, wNil, wTup, wLst, wLstM, wV, wC, wB, wCh, Ab.wTru, wNotT, wAndT, wOrT, wSl, wNo, wSome, wCall, wIsI, wIsI2, wStrip, wRev, gPop, wDNew, wDNewM, wSlW, gSlW, gAddM, gTimes, itemsA, wML, wYes, gIn, gInS, gIx, gEqv, gLt, gOrd, gAdd, gMinus, gInt, gNeg, gIs, gSl, gLen, gAbs, gTwo, gI1, gApp, gExt, gTupOf, gListOf, gListM, ims, asQ, asT, asL, dat, tru, at0, at1, at2, id_eq, AV.und, keyA, Ab.isNon, wipeS, List.set_cons_zero, List.set_cons_succ, wgSub, gSt, retA, List.take_length, takeSet, takeSet2, List.foldl_cons, List.foldl_nil, List.zip_cons_cons, List.zip_nil_right, keepS_nil, keepS_cons, keepO_none, keepO_im, keepO_wl, List.length_set, List.length_append, List.set_set, true_and, any_pr, snocAt, snocTake, ims_map, ims_mapF, atD, Option.isSome_some, Option.isSome_none, if_true, if_false, Bool.false_eq_true, ite_true, ite_false, isTup, Bool.not_false]; exact q
end
end K14
end

section
set_option maxRecDepth 100000
set_option maxHeartbeats 4000000
namespace K14
open PySem PySem.Spec PyProof.Rows L2 Gd Ab
abbrev s_is_number : Stmt := topS 20
theorem sc_is_number : FnScope ["_law_thing", "_law_least", "_law_most"] ["_law_thing", "_law_least", "_law_most"] (defScope s_is_number) := ⟨rfl, rfl, rfl, by decide +kernel, rfl, by decide +kernel, by decide +kernel⟩
abbrev s_touch : Stmt := topS 21
theorem sc_touch : FnScope ["_law_beside_here", "_law_one", "_law_other"] ["_law_beside_here", "_law_one", "_law_other"] (defScope s_touch) := ⟨rfl, rfl, rfl, by decide +kernel, rfl, by decide +kernel, by decide +kernel⟩
abbrev s_due : Stmt := topS 22
theorem sc_due : FnScope ["_law_net", "_law_far", "_law_thing", "_law_beside_here", "_law_one", "_law_at", "_law_other"] ["_law_net", "_law_far", "_law_thing"] (defScope s_due) := ⟨rfl, rfl, rfl, by decide +kernel, rfl, by decide +kernel, by decide +kernel⟩
section
variable {P : Program} {w : World} {K : PySem.W.Frag} {mg : Str → Option Value} {base : Heap} {t0 : Tok}
def numB (lo hi : Int) : PyData → Bool
  | .int i => decide (lo ≤ i) && decide (i ≤ hi)
  | _ => false
def aIsNum : ASp := aPure fun xs d => ∃ v lo hi, xs = [v, .int lo, .int hi] ∧ d = .bool (numB lo hi v)
theorem ok_is_number (hB : Bs mg t0) (D : Defd K mg "_law_is_number" s_is_number) : Callee P w K mg base CX0 1 "_law_is_number" ["_law_thing", "_law_least", "_law_most"] (lift aIsNum) := by
  refine okA D sc_is_number (fun _ _ _ _ _ _ us hl => match us, hl with | [_, _, _], _ => rfl) (fun ds m Q EA ⟨xs, d, e, ⟨_, _, _, h, _⟩, _⟩ => by rw [e, h]; rfl) fun f cdv A outer s H E B hgu hr => ?_
  refine ⟨_, _, (ss_one (s_ret (ae_and (K := K) rfl (ae_isI2 (isW kit_int) (by rfl) hB.isinstance (by decide +kernel) (ae_v (pv 0)) (pe_bltn (v := .ty "int") (by rfl) hB.int (by decide +kernel) rfl)) (ae_and (K := K) rfl (ae_not (K := K) rfl (ae_isI call_isBool (by rfl) hB.isinstance (by decide +kernel) (ae_v (pv 0)) (pe_bltn (v := .ty "bool") (by rfl) hB.bool (by decide +kernel) rfl))) (ae_one (ae_ch oa_le oa_le (ae_v (pv 1)) (ae_v (pv 0)) (ae_v (pv 2)))))))), ?_⟩
  rintro _ m Q ⟨_, _, rfl, ⟨v, lo, hi, rfl, rfl⟩, q⟩
  cases v with
  | int i =>
    have q : Q (.im (.bool (decide (lo ≤ i) && decide (i ≤ hi)))) m := q
    simp only [startA, List.map_cons, List.map_nil, List.length_cons, List.length_nil, List.replicate, List.cons_append, List.nil_append, Nat.reduceAdd, Nat.reduceSub, Nat.zero_add, Nat.sub_self, List.getElem?_cons_zero, List.getElem?_cons_succ, Option.map_some, wRet, wRetN, wSeq, wNext, wDrop, wIfS, wAsg, wgN, wgTup, wgCons, wgNil, wPar, wOr, wAnd, Ab.wNot, wIf, wOp, wUn, wCB, wCons, wNil, wTup, wLst, wLstM, wV, wC, wB, wCh, Ab.wTru, wNotT, wAndT, wOrT, wSl, wNo, wSome, wCall, wIsI, wIsI2, wStrip, wRev, gPop, wDNew, wDNewM, wSlW, gSlW, gAddM, gTimes, itemsA, wML, wYes, gIn, gInS, gIx, gEqv, gLt, gOrd, gAdd, gMinus, gInt, gNeg, gIs, gSl, gLen, gAbs, gTwo, gI1, gApp, gExt, gTupOf, gListOf, gListM, ims, asQ, asT, asL, dat, tru, at0, at1, at2, id_eq, AV.und, keyA, Ab.isNon, wipeS, List.set_cons_zero, List.set_cons_succ, wgSub, gSt, retA, List.take_length, takeSet, takeSet2, List.foldl_cons, List.foldl_nil, List.zip_cons_cons, List.zip_nil_right, keepS_nil, keepS_cons, keepO_none, keepO_im, keepO_wl, List.length_set, List.length_append, List.set_set, true_and, any_pr, snocAt, snocTake, ims_map, ims_mapF, atD, Option.isSome_some, Option.isSome_none, if_true, if_false, Bool.false_eq_true, ite_true, ite_false, Gd.isInt, Gd.isBool]
    cases c : decide (lo ≤ i) with
    | false => rw [c, Bool.false_and] at q; simpa [startA, List.map_cons, List.map_nil, List.length_cons, List.length_nil, List.replicate, List.cons_append, List.nil_append, Nat.reduceAdd, Nat.reduceSub, Nat.zero_add, Nat.sub_self, List.getElem?_cons_zero, List.getElem?_cons_succ, Option.map_some, wRet, wRetN, wSeq, wNext, wDrop, wIfS, wAsg, wgN, wgTup, wgCons, wgNil, wPar, wOr, wAnd, Ab.wNot, wIf, wOp, wUn, wCB, wCons, wNil, wTup, wLst, wLstM, wV, wC, wB, wCh, Ab.wTru, wNotT, wAndT, wOrT, wSl, wNo, wSome, wCall, wIsI, wIsI2, wStrip, wRev, gPop, wDNew, wDNewM, wSlW, gSlW, gAddM, gTimes, itemsA, wML, wYes, gIn, gInS, gIx, gEqv, gLt, gOrd, gAdd, gMinus, gInt, gNeg, gIs, gSl, gLen, gAbs, gTwo, gI1, gApp, gExt, gTupOf, gListOf, gListM, ims, asQ, asT, asL, dat, tru, at0, at1, at2, id_eq, AV.und, keyA, Ab.isNon, wipeS, List.set_cons_zero, List.set_cons_succ, wgSub, gSt, retA, List.take_length, takeSet, takeSet2, List.foldl_cons, List.foldl_nil, List.zip_cons_cons, List.zip_nil_right, keepS_nil, keepS_cons, keepO_none, keepO_im, keepO_wl, List.length_set, List.length_append, List.set_set, true_and, any_pr, snocAt, snocTake, ims_map, ims_mapF, atD, Option.isSome_some, Option.isSome_none, if_true, if_false, Bool.false_eq_true, ite_true, ite_false] using q
    | true => rw [c, Bool.true_and] at q; simpa [startA, List.map_cons, List.map_nil, List.length_cons, List.length_nil, List.replicate, List.cons_append, List.nil_append, Nat.reduceAdd, Nat.reduceSub, Nat.zero_add, Nat.sub_self, List.getElem?_cons_zero, List.getElem?_cons_succ, Option.map_some, wRet, wRetN, wSeq, wNext, wDrop, wIfS, wAsg, wgN, wgTup, wgCons, wgNil, wPar, wOr, wAnd, Ab.wNot, wIf, wOp, wUn, wCB, wCons, wNil, wTup, wLst, wLstM, wV, wC, wB, wCh, Ab.wTru, wNotT, wAndT, wOrT, wSl, wNo, wSome, wCall, wIsI, wIsI2, wStrip, wRev, gPop, wDNew, wDNewM, wSlW, gSlW, gAddM, gTimes, itemsA, wML, wYes, gIn, gInS, gIx, gEqv, gLt, gOrd, gAdd, gMinus, gInt, gNeg, gIs, gSl, gLen, gAbs, gTwo, gI1, gApp, gExt, gTupOf, gListOf, gListM, ims, asQ, asT, asL, dat, tru, at0, at1, at2, id_eq, AV.und, keyA, Ab.isNon, wipeS, List.set_cons_zero, List.set_cons_succ, wgSub, gSt, retA, List.take_length, takeSet, takeSet2, List.foldl_cons, List.foldl_nil, List.zip_cons_cons, List.zip_nil_right, keepS_nil, keepS_cons, keepO_none, keepO_im, keepO_wl, List.length_set, List.length_append, List.set_set, true_and, any_pr, snocAt, snocTake, ims_map, ims_mapF, atD, Option.isSome_some, Option.isSome_none, if_true, if_false, Bool.false_eq_true, ite_true, ite_false] using q
  | _ => simp only [startA, List.map_cons, List.map_nil, List.length_cons, List.length_nil, List.replicate, List.cons_append, List.nil_append, Nat.reduceAdd, Nat.reduceSub, Nat.zero_add, Nat.sub_self, List.getElem?_cons_zero, List.getElem?_cons_succ, Option.map_some, wRet, wRetN, wSeq, wNext, wDrop, wIfS, wAsg, wgN, wgTup, wgCons, wgNil, wPar, wOr, wAnd, Ab.wNot, wIf, wOp, wUn, wCB, wCons, wNil, wTup, wLst, wLstM, wV, wC, wB, wCh, Ab.wTru, wNotT, wAndT, wOrT, wSl, wNo, wSome, wCall, wIsI, wIsI2, wStrip, wRev, gPop, wDNew, wDNewM, wSlW, gSlW, gAddM, gTimes, itemsA, wML, wYes, gIn, gInS, gIx, gEqv, gLt, gOrd, gAdd, gMinus, gInt, gNeg, gIs, gSl, gLen, gAbs, gTwo, gI1, gApp, gExt, gTupOf, gListOf, gListM, ims, asQ, asT, asL, dat, tru, at0, at1, at2, id_eq, AV.und, keyA, Ab.isNon, wipeS, List.set_cons_zero, List.set_cons_succ, wgSub, gSt, retA, List.take_length, takeSet, takeSet2, List.foldl_cons, List.foldl_nil, List.zip_cons_cons, List.zip_nil_right, keepS_nil, keepS_cons, keepO_none, keepO_im, keepO_wl, List.length_set, List.length_append, List.set_set, true_and, any_pr, snocAt, snocTake, ims_map, ims_mapF, atD, Option.isSome_some, Option.isSome_none, if_true, if_false, Bool.false_eq_true, ite_true, ite_false, Gd.isInt, Gd.isBool, Bool.not_true]; exact q
def aTouch : ASp := fun ds m P _ => ∃ i ss ts p q, ds = [.mu i, .im (nodeE p), .im (nodeE q)] ∧ m[i]? = some (.dk (besideC ss ts)) ∧ NetV ss ts ∧ p.1 ∈ ss ∧ q.1 ∈ ss ∧ P (.im (.bool (due ts p q))) m
theorem ok_touch (hB : Bs mg t0) (D : Defd K mg "_law_touch" s_touch) : Callee P w K mg base CX0 1 "_law_touch" ["_law_beside_here", "_law_one", "_law_other"] (lift aTouch) := by
  refine okA D sc_touch (fun _ _ _ _ _ _ us hl => match us, hl with | [_, _, _], _ => rfl) (fun ds m Q EA ⟨_, _, _, _, _, e, _⟩ => by rw [e]; rfl) fun f cdv A outer s H E B hgu hr => ?_
  refine ⟨_, _, (ss_cons (s_if (at_cmp (oa_eq hr) (ae_ix hr (ae_v (pv 1)) ae_int (fun _ _ => rfl)) (ae_ix hr (ae_v (pv 2)) ae_int (fun _ _ => rfl)) (nomark _)) (ss_one (s_ret (ae_cmp (oa_in hr) (ae_op oa_sub (ae_ix hr (ae_v (pv 1)) ae_int (fun _ _ => rfl)) (ae_ix hr (ae_v (pv 2)) ae_int (fun _ _ => rfl))) (ae_tup (al_cons ae_int (al_cons (ae_un ua_neg ae_int) al_nil))) (by rfl)))) ss_nil)
        (ss_one (s_ret (ae_and (K := K) rfl (ae_cmp (oa_eq hr) (ae_ix hr (ae_v (pv 1)) ae_int (fun _ _ => rfl)) (ae_ix hr (ae_v (pv 2)) ae_int (fun _ _ => rfl)) (nomark _)) (ae_one (ae_cmp (oa_in hr) (ae_ix hr (ae_v (pv 2)) ae_int (fun _ _ => rfl)) (ae_ix hr (ae_v (pv 0)) (ae_ix hr (ae_v (pv 1)) ae_int (fun _ _ => rfl)) (fun _ _ => rfl)) (by rfl))))))), ?_⟩
  rintro _ m Q ⟨ib, ss, ts, ⟨a, i⟩, ⟨b, j⟩, rfl, hb, nv, ha, hb2, q⟩
  simp only at ha hb2
  have din : decide (b ∈ nbS ts a) = talk ts a b := by rw [Bool.eq_iff_iff]; simp [mem_nbS nv]
  have oa := (nv.s a ha).ok
  have ob := (nv.s b hb2).ok
  have lay := lay_strs (nbS_ok nv (a := a))
  have q : Q (.im (.bool ((decide (a = b) && (decide (1 = i - j) || decide (-1 = i - j))) || (talk ts a b && decide (i = j))))) m := q
  refine wSeq_of fun N1 n1 => ?_
  simp only [startA, List.map_cons, List.map_nil, List.length_cons, List.length_nil, List.replicate, List.cons_append, List.nil_append, Nat.reduceAdd, Nat.reduceSub, Nat.zero_add, Nat.sub_self, List.getElem?_cons_zero, List.getElem?_cons_succ, Option.map_some, wRet, wRetN, wSeq, wNext, wDrop, wIfS, wAsg, wgN, wgTup, wgCons, wgNil, wPar, wOr, wAnd, Ab.wNot, wIf, wOp, wUn, wCB, wCons, wNil, wTup, wLst, wLstM, wV, wC, wB, wCh, Ab.wTru, wNotT, wAndT, wOrT, wSl, wNo, wSome, wCall, wIsI, wIsI2, wStrip, wRev, gPop, wDNew, wDNewM, wSlW, gSlW, gAddM, gTimes, itemsA, wML, wYes, gIn, gInS, gIx, gEqv, gLt, gOrd, gAdd, gMinus, gInt, gNeg, gIs, gSl, gLen, gAbs, gTwo, gI1, gApp, gExt, gTupOf, gListOf, gListM, ims, asQ, asT, asL, dat, tru, at0, at1, at2, id_eq, AV.und, keyA, Ab.isNon, wipeS, List.set_cons_zero, List.set_cons_succ, wgSub, gSt, retA, List.take_length, takeSet, takeSet2, List.foldl_cons, List.foldl_nil, List.zip_cons_cons, List.zip_nil_right, keepS_nil, keepS_cons, keepO_none, keepO_im, keepO_wl, List.length_set, List.length_append, List.set_set, true_and, any_pr, snocAt, snocTake, ims_map, ims_mapF, atD, Option.isSome_some, Option.isSome_none, if_true, if_false, Bool.false_eq_true, ite_true, ite_false, any_pm]
  by_cases e : a = b
  · subst e
    rw [talk_self nv, decide_eq_true rfl, Bool.true_and, Bool.false_and, Bool.or_false] at q
    simp only [decide_true, if_true]
    exact ⟨by decide, look_int _, rfl, q⟩
  · rw [decide_eq_false e, Bool.false_and, Bool.false_or] at q
    simp only [e, decide_false, Bool.false_eq_true, if_false]
    refine n1 _ _ ?_
    clear n1 N1
    simp only [startA, List.map_cons, List.map_nil, List.length_cons, List.length_nil, List.replicate, List.cons_append, List.nil_append, Nat.reduceAdd, Nat.reduceSub, Nat.zero_add, Nat.sub_self, List.getElem?_cons_zero, List.getElem?_cons_succ, Option.map_some, wRet, wRetN, wSeq, wNext, wDrop, wIfS, wAsg, wgN, wgTup, wgCons, wgNil, wPar, wOr, wAnd, Ab.wNot, wIf, wOp, wUn, wCB, wCons, wNil, wTup, wLst, wLstM, wV, wC, wB, wCh, Ab.wTru, wNotT, wAndT, wOrT, wSl, wNo, wSome, wCall, wIsI, wIsI2, wStrip, wRev, gPop, wDNew, wDNewM, wSlW, gSlW, gAddM, gTimes, itemsA, wML, wYes, gIn, gInS, gIx, gEqv, gLt, gOrd, gAdd, gMinus, gInt, gNeg, gIs, gSl, gLen, gAbs, gTwo, gI1, gApp, gExt, gTupOf, gListOf, gListM, ims, asQ, asT, asL, dat, tru, at0, at1, at2, id_eq, AV.und, keyA, Ab.isNon, wipeS, List.set_cons_zero, List.set_cons_succ, wgSub, gSt, retA, List.take_length, takeSet, takeSet2, List.foldl_cons, List.foldl_nil, List.zip_cons_cons, List.zip_nil_right, keepS_nil, keepS_cons, keepO_none, keepO_im, keepO_wl, List.length_set, List.length_append, List.set_set, true_and, any_pr, snocAt, snocTake, ims_map, ims_mapF, atD, Option.isSome_some, Option.isSome_none, if_true, if_false, Bool.false_eq_true, ite_true, ite_false, hb, atD, look_beside ha, any_str, din]
    by_cases e2 : i = j
    · subst e2
      rw [decide_eq_true rfl, Bool.and_true] at q
      simp only [decide_true, if_true]
      exact ⟨look_str ob, lay, q⟩
    · rw [decide_eq_false e2, Bool.and_false] at q
      simp only [e2, decide_false, Bool.false_eq_true, if_false]
      exact q
/-- the services beside none are those that do not talk -/
theorem besides_none {ss : List Str} {ts : List (Str × Str)} (h : NetV ss ts) {a : Str} (ha : a ∈ ss) : nbS ts a = [] ↔ (linkD ss ts a).isEmpty = true := by
  rw [List.isEmpty_iff]
  unfold linkD
  rw [List.map_eq_nil_iff, List.filter_eq_nil_iff]
  constructor
  · intro z b hb t
    have := (mem_nbS h).mpr t
    rw [z] at this; cases this
  · intro z
    rw [List.eq_nil_iff_forall_not_mem]
    intro b hb
    have t := (mem_nbS h).mp hb
    have : b ∈ ss := by
      have t' := t
      unfold talk at t'
      rw [Bool.or_eq_true, decide_eq_true_eq, decide_eq_true_eq] at t'
      rcases t' with z | z
      · exact (h.t _ z).2.1
      · exact (h.t _ z).1
    exact z b this t
theorem talker_iff {ss : List Str} {ts : List (Str × Str)} (h : NetV ss ts) {a : Str} (ha : a ∈ ss) : a ∈ talkers ss ts ↔ nbS ts a ≠ [] := by
  unfold talkers
  rw [List.mem_filter, Ne, besides_none h ha]
  cases (linkD ss ts a).isEmpty <;> simp [ha]
/-- none touches a later one -/
def tailFree (ts : List (Str × Str)) : List (Str × Int) → Bool
  | [] => true
  | p :: r => !(r.any fun q => due ts p q) && tailFree ts r
theorem tail_adj {ss : List Str} {ts : List (Str × Str)} (h : NetV ss ts) : ∀ ns : List (Str × Int), tailFree ts ns = !anyAdj ts ns := by
  intro ns
  rw [Bool.eq_iff_iff]
  unfold anyAdj
  simp only [Bool.not_eq_true', List.any_eq_false, List.any_eq_true, not_exists, not_and, Bool.not_eq_true]
  have key : tailFree ts ns = true ↔ ns.Pairwise fun p q => due ts p q = false := by
    induction ns with
    | nil => simp [tailFree]
    | cons p r ih =>
      rw [tailFree, Bool.and_eq_true, ih, List.pairwise_cons]
      simp
  rw [key]
  clear key
  constructor
  · intro pw p hp q hq
    induction pw with
    | nil => cases hp
    | cons h1 _ ih =>
      rcases List.mem_cons.mp hp with e | e
      · subst e
        rcases List.mem_cons.mp hq with e2 | e2
        · rw [e2]; exact due_self h _
        · exact h1 _ e2
      · rcases List.mem_cons.mp hq with e2 | e2
        · rw [e2, due_symm]; exact h1 _ e
        · exact ih e e2
  · intro hh
    exact List.pairwise_iff_getElem.mpr fun i j hi hj _ => hh _ (List.getElem_mem hi) _ (List.getElem_mem hj)
theorem eqv_nodes : ∀ ns ms : List (Str × Int), PyData.eqvAll (ns.map nodeE) (ms.map nodeE) = decide (ns = ms)
  | [], [] => by simp [PyData.eqvAll]
  | [], _ :: _ => by simp [PyData.eqvAll]
  | _ :: _, [] => by simp [PyData.eqvAll]
  | (a, i) :: r, (b, j) :: t => by
    rw [List.map_cons, List.map_cons]
    simp only [PyData.eqvAll, eqv_nodes r t, PyData.eqv]
    by_cases h1 : a = b <;> by_cases h2 : i = j <;> by_cases h3 : r = t <;> simp [h1, h2, h3]
theorem lay_nodes {ns : List (Str × Int)} (h : ∀ n ∈ ns, okS n.1) : PyData.canLayAll0 (ns.map nodeE) = true := by
  induction ns with
  | nil => rfl
  | cons p r ih =>
    rw [List.map_cons]
    simp only [PyData.canLayAll0, PyData.canLay0, Bool.and_eq_true, Bool.and_true]
    exact ⟨h p List.mem_cons_self, ih fun t ht => h t (List.mem_cons_of_mem _ ht)⟩
theorem look_nodes {ns : List (Str × Int)} (h : ∀ n ∈ ns, okS n.1) : Ab.Look (.list (ns.map nodeE)) := ⟨by simp only [PyData.canLay0]; exact lay_nodes h, by
  have : PyData.depthAll (ns.map nodeE) ≤ 3 := depths_le fun x hx => by
    obtain ⟨n, _, rfl⟩ := List.mem_map.mp hx
    simp [PyData.depth, PyData.depthAll]
  simp only [PyData.depth]; omega⟩
theorem num_lv (far : Int) (l : PyData) : numB 1 (far - 1) l = lvB far l := by
  cases l with
  | int i =>
    show (decide (1 ≤ i) && decide (i ≤ far - 1)) = (decide (1 ≤ i) && decide (i < far))
    congr 1
    rw [decide_eq_decide]; omega
  | _ => rfl
def aDue : ASp := fun ds m P EA => aPure (fun xs d => ∃ ss ts far v, xs = [netD ss ts, .int far, v] ∧ NetV ss ts ∧ tupL v ≤ 60 ∧ d = .bool (apartB ss ts far v)) ds m P EA ∨ ∃ (ss : List Str) (ts : List (Str × Str)) (far : Int) (zs : List PyData), ds = [.im (netD ss ts), .im (.int far), .wl zs] ∧ NetV ss ts ∧ P (.im (.bool false)) m
theorem ok_due (hB : Bs mg t0) (D : Defd K mg "_law_due" s_due) (C_law_beside : Callee P w K mg base CX0 1 "_law_beside" ["_law_network_here"] (lift aBeside)) (C_law_is_number : Callee P w K mg base CX0 1 "_law_is_number" ["_law_thing", "_law_least", "_law_most"] (lift aIsNum)) (C_law_touch : Callee P w K mg base CX0 1 "_law_touch" ["_law_beside_here", "_law_one", "_law_other"] (lift aTouch)) :
    Callee P w K mg base CX0 2 "_law_due" ["_law_net", "_law_far", "_law_thing"] (lift aDue) := by
  refine okA D sc_due (fun _ _ _ _ _ _ us hl => match us, hl with | [_, _, _], _ => rfl) (fun ds m Q EA h => by rcases h with ⟨xs, d, e, ⟨_, _, _, _, h, _⟩, _⟩ | ⟨_, _, _, _, e, _⟩ <;> (rw [e]; first | rfl | (rw [h]; rfl))) fun f cdv A outer s H E B hgu hr => ?_
  refine ⟨_, _, (ss_cons (s_set (i := 3) sc_due.nd rfl (.inr rfl) (ae_call C_law_beside hgu (hr.mono (by omega)) (by rfl) pass0 (al_cons (ae_v (pv 0)) al_nil)))
        (ss_cons (s_if (at_not (at_tru (K := K) rfl (ae_isI2 (isW kit_tup) (by rfl) hB.isinstance (by decide +kernel) (ae_v (pv 2)) (pe_bltn (v := .ty "tuple") (by rfl) hB.tuple (by decide +kernel) rfl)))) (ss_one (s_ret ae_bl)) ss_nil)
        (ss_cons (s_for PassesOwn.never rfl (ai_any (K := K) rfl (ae_v (pv 2))) (g_name (pg_name (i := 4) sc_due.nd rfl (.inr rfl))) (ss_cons (s_if (AW.at (aw_or (at_not (at_tru (K := K) rfl (ae_isI2 (isW kit_tup) (by rfl) hB.isinstance (by decide +kernel) (ae_v (pv 4)) (pe_bltn (v := .ty "tuple") (by rfl) hB.tuple (by decide +kernel) rfl)))) (aw_or (at_cmp (oa_ne hr) (ae_callB ca_len (by rfl) hB.len PySem.boot_len (al_cons (ae_v (pv 4)) al_nil)) ae_int (nomark _)) (aw_or (at_not (at_tru (K := K) rfl (ae_isI2 (isW kit_str) (by rfl) hB.isinstance (by decide +kernel) (ae_ix hr (ae_v (pv 4)) ae_int (fun _ _ => rfl)) (pe_bltn (v := .ty "str") (by rfl) hB.str (by decide +kernel) rfl)))) (aw_or1 (at_cmp (oa_notinS hr) (ae_ix hr (ae_v (pv 4)) ae_int (fun _ _ => rfl)) (ae_ix hr (ae_v (pv 0)) ae_int (fun _ _ => rfl)) (by rfl))))))) (ss_one (s_ret ae_bl)) ss_nil)
        (ss_one (s_if (AW.at (aw_or (at_cmp (oa_eq hr) (ae_ix hr (ae_v (pv 3)) (ae_ix hr (ae_v (pv 4)) ae_int (fun _ _ => rfl)) (fun _ _ => rfl)) (ae_lst al_nil) (nomark _)) (aw_or1 (at_not (at_tru (K := K) rfl (ae_call C_law_is_number hgu (hr.mono (by omega)) (by rfl) pass0 (al_cons (ae_ix hr (ae_v (pv 4)) ae_int (fun _ _ => rfl)) (al_cons ae_int (al_cons (ae_op oa_sub (ae_v (pv 1)) ae_int) al_nil))))))))) (ss_one (s_ret ae_bl)) ss_nil))))
        (ss_cons (s_if (at_cmp (oa_ne hr) (ae_callTy ca_list (by rfl) hB.list (by decide +kernel) (al_cons (ae_v (pv 2)) al_nil)) (ae_sortSetN (K := K) rfl rfl rfl rfl hr (by rfl) hB.sorted (by rfl) hB.set (al_cons (ae_v (pv 2)) al_nil)) (nomark _)) (ss_one (s_ret ae_bl)) ss_nil)
        (ss_cons (s_for PassesOwn.never rfl (ai_enumT (K := K) rfl (by rfl) hB.enumerate (al_cons (ae_v (pv 2)) al_nil)) (g_tup (K := K) rfl rfl (gs_cons (g_name (pg_name (i := 5) sc_due.nd rfl (.inl rfl))) (gs_cons (g_name (pg_name (i := 4) sc_due.nd rfl (.inr rfl))) gs_nil))) (ss_one (s_if (at_tru (K := K) rfl (ae_callB (ca_any rfl) (by rfl) hB.any (by decide +kernel) (al_cons (ae_lc (own := [("_law_other", 6)]) (g := (gName 6)) rfl sc_due.nd (ai_any (K := K) rfl (ae_slice (ae_v (pv 2)) (ao_some (ae_op oa_add (ae_v (pv 5)) ae_int)) ao_none)) (blkOk_by (N := ["_law_net", "_law_far", "_law_thing", "_law_beside_here", "_law_one", "_law_at", "_law_other"]) (sc := defScope s_due) (by decide +kernel)) (fun _ _ _ _ _ => (g_name (pg_name (i := 6) sc_due.nd rfl (.inl rfl)))) (own_name (by decide)) (mono_name _) (fun _ _ _ _ _ => ts_nil) (fun _ _ _ _ _ => (ae_call C_law_touch hgu (hr.mono (by omega)) (by rfl) pass0 (al_cons (ae_v (pv 3)) (al_cons (ae_v (pv 4)) (al_cons (ae_v (pv 6)) al_nil)))))) al_nil))) (ss_one (s_ret ae_bl)) ss_nil)))
        (ss_one (s_ret ae_bl))))))), ?_⟩
  rintro _ m Q (⟨_, _, rfl, ⟨ss, ts, far, v, rfl, nv, hv, rfl⟩, q⟩ | ⟨ss, ts, far, zs, rfl, nv, q⟩)
  rotate_left
  · refine wSeq_of fun N1 n1 => ?_
    simp only [startA, List.map_cons, List.map_nil, List.length_cons, List.length_nil, List.replicate, List.cons_append, List.nil_append, Nat.reduceAdd, Nat.reduceSub, Nat.zero_add, Nat.sub_self, List.getElem?_cons_zero, List.getElem?_cons_succ, Option.map_some, wRet, wRetN, wSeq, wNext, wDrop, wIfS, wAsg, wgN, wgTup, wgCons, wgNil, wPar, wOr, wAnd, Ab.wNot, wIf, wOp, wUn, wCB, wCons, wNil, wTup, wLst, wLstM, wV, wC, wB, wCh, Ab.wTru, wNotT, wAndT, wOrT, wSl, wNo, wSome, wCall, wIsI, wIsI2, wStrip, wRev, gPop, wDNew, wDNewM, wSlW, gSlW, gAddM, gTimes, itemsA, wML, wYes, gIn, gInS, gIx, gEqv, gLt, gOrd, gAdd, gMinus, gInt, gNeg, gIs, gSl, gLen, gAbs, gTwo, gI1, gApp, gExt, gTupOf, gListOf, gListM, ims, asQ, asT, asL, dat, tru, at0, at1, at2, id_eq, AV.und, keyA, Ab.isNon, wipeS, List.set_cons_zero, List.set_cons_succ, wgSub, gSt, retA, List.take_length, takeSet, takeSet2, List.foldl_cons, List.foldl_nil, List.zip_cons_cons, List.zip_nil_right, keepS_nil, keepS_cons, keepO_none, keepO_im, keepO_wl, List.length_set, List.length_append, List.set_set, true_and, any_pr, snocAt, snocTake, ims_map, ims_mapF, atD, Option.isSome_some, Option.isSome_none, if_true, if_false, Bool.false_eq_true, ite_true, ite_false]
    refine ⟨ss, ts, rfl, nv, n1 _ _ (wSeq_of fun N2 n2 => ?_)⟩
    simp only [startA, List.map_cons, List.map_nil, List.length_cons, List.length_nil, List.replicate, List.cons_append, List.nil_append, Nat.reduceAdd, Nat.reduceSub, Nat.zero_add, Nat.sub_self, List.getElem?_cons_zero, List.getElem?_cons_succ, Option.map_some, wRet, wRetN, wSeq, wNext, wDrop, wIfS, wAsg, wgN, wgTup, wgCons, wgNil, wPar, wOr, wAnd, Ab.wNot, wIf, wOp, wUn, wCB, wCons, wNil, wTup, wLst, wLstM, wV, wC, wB, wCh, Ab.wTru, wNotT, wAndT, wOrT, wSl, wNo, wSome, wCall, wIsI, wIsI2, wStrip, wRev, gPop, wDNew, wDNewM, wSlW, gSlW, gAddM, gTimes, itemsA, wML, wYes, gIn, gInS, gIx, gEqv, gLt, gOrd, gAdd, gMinus, gInt, gNeg, gIs, gSl, gLen, gAbs, gTwo, gI1, gApp, gExt, gTupOf, gListOf, gListM, ims, asQ, asT, asL, dat, tru, at0, at1, at2, id_eq, AV.und, keyA, Ab.isNon, wipeS, List.set_cons_zero, List.set_cons_succ, wgSub, gSt, retA, List.take_length, takeSet, takeSet2, List.foldl_cons, List.foldl_nil, List.zip_cons_cons, List.zip_nil_right, keepS_nil, keepS_cons, keepO_none, keepO_im, keepO_wl, List.length_set, List.length_append, List.set_set, true_and, any_pr, snocAt, snocTake, ims_map, ims_mapF, atD, Option.isSome_some, Option.isSome_none, if_true, if_false, Bool.false_eq_true, ite_true, ite_false, isTup, Bool.not_false, if_true, List.take_left']
    exact q
  refine wSeq_of fun N1 n1 => ?_
  simp only [startA, List.map_cons, List.map_nil, List.length_cons, List.length_nil, List.replicate, List.cons_append, List.nil_append, Nat.reduceAdd, Nat.reduceSub, Nat.zero_add, Nat.sub_self, List.getElem?_cons_zero, List.getElem?_cons_succ, Option.map_some, wRet, wRetN, wSeq, wNext, wDrop, wIfS, wAsg, wgN, wgTup, wgCons, wgNil, wPar, wOr, wAnd, Ab.wNot, wIf, wOp, wUn, wCB, wCons, wNil, wTup, wLst, wLstM, wV, wC, wB, wCh, Ab.wTru, wNotT, wAndT, wOrT, wSl, wNo, wSome, wCall, wIsI, wIsI2, wStrip, wRev, gPop, wDNew, wDNewM, wSlW, gSlW, gAddM, gTimes, itemsA, wML, wYes, gIn, gInS, gIx, gEqv, gLt, gOrd, gAdd, gMinus, gInt, gNeg, gIs, gSl, gLen, gAbs, gTwo, gI1, gApp, gExt, gTupOf, gListOf, gListM, ims, asQ, asT, asL, dat, tru, at0, at1, at2, id_eq, AV.und, keyA, Ab.isNon, wipeS, List.set_cons_zero, List.set_cons_succ, wgSub, gSt, retA, List.take_length, takeSet, takeSet2, List.foldl_cons, List.foldl_nil, List.zip_cons_cons, List.zip_nil_right, keepS_nil, keepS_cons, keepO_none, keepO_im, keepO_wl, List.length_set, List.length_append, List.set_set, true_and, any_pr, snocAt, snocTake, ims_map, ims_mapF, atD, Option.isSome_some, Option.isSome_none, if_true, if_false, Bool.false_eq_true, ite_true, ite_false]
  refine ⟨ss, ts, rfl, nv, n1 _ _ (wSeq_of fun N2 n2 => ?_)⟩
  clear n1 N1
  cases v with
  | tuple xs =>
    have q : Q (.im (.bool (xs.all (nodeB (talkers ss ts) far) && (ascNB (xs.map toN) && !anyAdj ts (xs.map toN))))) m := q
    have hl : xs.length ≤ 60 := hv
    simp only [startA, List.map_cons, List.map_nil, List.length_cons, List.length_nil, List.replicate, List.cons_append, List.nil_append, Nat.reduceAdd, Nat.reduceSub, Nat.zero_add, Nat.sub_self, List.getElem?_cons_zero, List.getElem?_cons_succ, Option.map_some, wRet, wRetN, wSeq, wNext, wDrop, wIfS, wAsg, wgN, wgTup, wgCons, wgNil, wPar, wOr, wAnd, Ab.wNot, wIf, wOp, wUn, wCB, wCons, wNil, wTup, wLst, wLstM, wV, wC, wB, wCh, Ab.wTru, wNotT, wAndT, wOrT, wSl, wNo, wSome, wCall, wIsI, wIsI2, wStrip, wRev, gPop, wDNew, wDNewM, wSlW, gSlW, gAddM, gTimes, itemsA, wML, wYes, gIn, gInS, gIx, gEqv, gLt, gOrd, gAdd, gMinus, gInt, gNeg, gIs, gSl, gLen, gAbs, gTwo, gI1, gApp, gExt, gTupOf, gListOf, gListM, ims, asQ, asT, asL, dat, tru, at0, at1, at2, id_eq, AV.und, keyA, Ab.isNon, wipeS, List.set_cons_zero, List.set_cons_succ, wgSub, gSt, retA, List.take_length, takeSet, takeSet2, List.foldl_cons, List.foldl_nil, List.zip_cons_cons, List.zip_nil_right, keepS_nil, keepS_cons, keepO_none, keepO_im, keepO_wl, List.length_set, List.length_append, List.set_set, true_and, any_pr, snocAt, snocTake, ims_map, ims_mapF, atD, Option.isSome_some, Option.isSome_none, if_true, if_false, Bool.false_eq_true, ite_true, ite_false, isTup, Bool.not_true]
    refine n2 _ _ (wSeq_of fun N3 n3 => ?_)
    clear n2 N2
    refine wFor_of fun B1 b1 => ?_
    simp only [startA, List.map_cons, List.map_nil, List.length_cons, List.length_nil, List.replicate, List.cons_append, List.nil_append, Nat.reduceAdd, Nat.reduceSub, Nat.zero_add, Nat.sub_self, List.getElem?_cons_zero, List.getElem?_cons_succ, Option.map_some, wRet, wRetN, wSeq, wNext, wDrop, wIfS, wAsg, wgN, wgTup, wgCons, wgNil, wPar, wOr, wAnd, Ab.wNot, wIf, wOp, wUn, wCB, wCons, wNil, wTup, wLst, wLstM, wV, wC, wB, wCh, Ab.wTru, wNotT, wAndT, wOrT, wSl, wNo, wSome, wCall, wIsI, wIsI2, wStrip, wRev, gPop, wDNew, wDNewM, wSlW, gSlW, gAddM, gTimes, itemsA, wML, wYes, gIn, gInS, gIx, gEqv, gLt, gOrd, gAdd, gMinus, gInt, gNeg, gIs, gSl, gLen, gAbs, gTwo, gI1, gApp, gExt, gTupOf, gListOf, gListM, ims, asQ, asT, asL, dat, tru, at0, at1, at2, id_eq, AV.und, keyA, Ab.isNon, wipeS, List.set_cons_zero, List.set_cons_succ, wgSub, gSt, retA, List.take_length, takeSet, takeSet2, List.foldl_cons, List.foldl_nil, List.zip_cons_cons, List.zip_nil_right, keepS_nil, keepS_cons, keepO_none, keepO_im, keepO_wl, List.length_set, List.length_append, List.set_set, true_and, any_pr, snocAt, snocTake, ims_map, ims_mapF, atD, Option.isSome_some, Option.isSome_none, if_true, if_false, Bool.false_eq_true, ite_true, ite_false, wiAny]
    refine for_inv (fun rest ρ m' => ∃ d r o4, xs = d ++ r ∧ rest = r.map .im ∧ d.all (nodeB (talkers ss ts) far) = true ∧ m' = m ++ [.dk (besideC ss ts)] ∧ ρ = [some (.im (netD ss ts)), some (.im (.int far)), some (.im (.tuple xs)), some (.mu m.length), o4, none, none]) (fun _ _ _ _ => trivial) ?_ ?_ ⟨[], xs, none, rfl, rfl, rfl, rfl, rfl⟩
    · rintro x rest ρ m' nx ⟨d, r, o4, e, ex, hd, rfl, rfl⟩ next
      obtain ⟨x, r, rfl, rfl, rfl⟩ : ∃ y r', r = y :: r' ∧ x = .im y ∧ rest = r'.map .im := by
        cases r with
        | nil => cases ex
        | cons t l' => simp only [List.map_cons, List.cons.injEq] at ex; exact ⟨t, l', rfl, ex.1, ex.2⟩
      have bad : nodeB (talkers ss ts) far x = false → Q (.im (.bool false)) m := fun hx => by
        have : xs.all (nodeB (talkers ss ts) far) = false := by rw [e, List.all_append, List.all_cons, hx, Bool.false_and, Bool.and_false]
        rw [this, Bool.false_and] at q
        exact q
      refine b1 _ _ _ _ ?_
      simp only [wgN, wgTup, wgCons, wgNil, List.map_cons, List.map_nil, List.set_cons_zero, List.set_cons_succ, List.length_cons, List.length_nil]
      refine wSeq_of fun N4 n4 => ?_
      cases x with
      | tuple ys =>
        simp only [startA, List.map_cons, List.map_nil, List.length_cons, List.length_nil, List.replicate, List.cons_append, List.nil_append, Nat.reduceAdd, Nat.reduceSub, Nat.zero_add, Nat.sub_self, List.getElem?_cons_zero, List.getElem?_cons_succ, Option.map_some, wRet, wRetN, wSeq, wNext, wDrop, wIfS, wAsg, wgN, wgTup, wgCons, wgNil, wPar, wOr, wAnd, Ab.wNot, wIf, wOp, wUn, wCB, wCons, wNil, wTup, wLst, wLstM, wV, wC, wB, wCh, Ab.wTru, wNotT, wAndT, wOrT, wSl, wNo, wSome, wCall, wIsI, wIsI2, wStrip, wRev, gPop, wDNew, wDNewM, wSlW, gSlW, gAddM, gTimes, itemsA, wML, wYes, gIn, gInS, gIx, gEqv, gLt, gOrd, gAdd, gMinus, gInt, gNeg, gIs, gSl, gLen, gAbs, gTwo, gI1, gApp, gExt, gTupOf, gListOf, gListM, ims, asQ, asT, asL, dat, tru, at0, at1, at2, id_eq, AV.und, keyA, Ab.isNon, wipeS, List.set_cons_zero, List.set_cons_succ, wgSub, gSt, retA, List.take_length, takeSet, takeSet2, List.foldl_cons, List.foldl_nil, List.zip_cons_cons, List.zip_nil_right, keepS_nil, keepS_cons, keepO_none, keepO_im, keepO_wl, List.length_set, List.length_append, List.set_set, true_and, any_pr, snocAt, snocTake, ims_map, ims_mapF, atD, Option.isSome_some, Option.isSome_none, if_true, if_false, Bool.false_eq_true, ite_true, ite_false, isTup, Bool.not_true]
        by_cases h2 : ys.length = 2
        · obtain ⟨a, l, rfl⟩ : ∃ a l, ys = [a, l] := by
            match ys, h2 with
            | [a, l], _ => exact ⟨a, l, rfl⟩
          simp only [List.length_cons, List.length_nil]
          cases a with
          | str a =>
            simp only [startA, List.map_cons, List.map_nil, List.length_cons, List.length_nil, List.replicate, List.cons_append, List.nil_append, Nat.reduceAdd, Nat.reduceSub, Nat.zero_add, Nat.sub_self, List.getElem?_cons_zero, List.getElem?_cons_succ, Option.map_some, wRet, wRetN, wSeq, wNext, wDrop, wIfS, wAsg, wgN, wgTup, wgCons, wgNil, wPar, wOr, wAnd, Ab.wNot, wIf, wOp, wUn, wCB, wCons, wNil, wTup, wLst, wLstM, wV, wC, wB, wCh, Ab.wTru, wNotT, wAndT, wOrT, wSl, wNo, wSome, wCall, wIsI, wIsI2, wStrip, wRev, gPop, wDNew, wDNewM, wSlW, gSlW, gAddM, gTimes, itemsA, wML, wYes, gIn, gInS, gIx, gEqv, gLt, gOrd, gAdd, gMinus, gInt, gNeg, gIs, gSl, gLen, gAbs, gTwo, gI1, gApp, gExt, gTupOf, gListOf, gListM, ims, asQ, asT, asL, dat, tru, at0, at1, at2, id_eq, AV.und, keyA, Ab.isNon, wipeS, List.set_cons_zero, List.set_cons_succ, wgSub, gSt, retA, List.take_length, takeSet, takeSet2, List.foldl_cons, List.foldl_nil, List.zip_cons_cons, List.zip_nil_right, keepS_nil, keepS_cons, keepO_none, keepO_im, keepO_wl, List.length_set, List.length_append, List.set_set, true_and, any_pr, snocAt, snocTake, ims_map, ims_mapF, atD, Option.isSome_some, Option.isSome_none, if_true, if_false, Bool.false_eq_true, ite_true, ite_false, isStr]
            have e2 : ((2 : Nat) : Int) = 2 := rfl
            simp only [e2, decide_true, Bool.not_true, Bool.false_eq_true, if_false]
            refine ⟨ss, rfl, ?_⟩
            have ei : inD (.str a) ss = decide (a ∈ ss) := rfl
            rw [ei]
            by_cases ha : a ∈ ss
            · simp only [ha, decide_true, Bool.not_true, Bool.false_eq_true, if_false]
              refine n4 _ _ ?_
              clear n4 N4
              simp only [startA, List.map_cons, List.map_nil, List.length_cons, List.length_nil, List.replicate, List.cons_append, List.nil_append, Nat.reduceAdd, Nat.reduceSub, Nat.zero_add, Nat.sub_self, List.getElem?_cons_zero, List.getElem?_cons_succ, Option.map_some, wRet, wRetN, wSeq, wNext, wDrop, wIfS, wAsg, wgN, wgTup, wgCons, wgNil, wPar, wOr, wAnd, Ab.wNot, wIf, wOp, wUn, wCB, wCons, wNil, wTup, wLst, wLstM, wV, wC, wB, wCh, Ab.wTru, wNotT, wAndT, wOrT, wSl, wNo, wSome, wCall, wIsI, wIsI2, wStrip, wRev, gPop, wDNew, wDNewM, wSlW, gSlW, gAddM, gTimes, itemsA, wML, wYes, gIn, gInS, gIx, gEqv, gLt, gOrd, gAdd, gMinus, gInt, gNeg, gIs, gSl, gLen, gAbs, gTwo, gI1, gApp, gExt, gTupOf, gListOf, gListM, ims, asQ, asT, asL, dat, tru, at0, at1, at2, id_eq, AV.und, keyA, Ab.isNon, wipeS, List.set_cons_zero, List.set_cons_succ, wgSub, gSt, retA, List.take_length, takeSet, takeSet2, List.foldl_cons, List.foldl_nil, List.zip_cons_cons, List.zip_nil_right, keepS_nil, keepS_cons, keepO_none, keepO_im, keepO_wl, List.length_set, List.length_append, List.set_set, true_and, any_pr, snocAt, snocTake, ims_map, ims_mapF, atD, Option.isSome_some, Option.isSome_none, if_true, if_false, Bool.false_eq_true, ite_true, ite_false, look_beside ha]
              have ti := talker_iff nv ha
              by_cases hn : nbS ts a = []
              · have : nodeB (talkers ss ts) far (.tuple [.str a, l]) = false := by
                  show (decide (a ∈ talkers ss ts) && _) = false
                  rw [decide_eq_false (fun z => ti.mp z hn), Bool.false_and]
                refine ⟨Nat.zero_le _, .inl ⟨_, rfl, ?_⟩⟩
                rw [hn]
                simp only [List.map_nil, List.isEmpty_nil, if_true]
                exact bad this
              · have nv2 : nodeB (talkers ss ts) far (.tuple [.str a, l]) = lvB far l := by
                  show (decide (a ∈ talkers ss ts) && _) = _
                  rw [decide_eq_true (ti.mpr hn), Bool.true_and]
                have ne : ((nbS ts a).map PyData.str).isEmpty = false := by
                  cases h : nbS ts a with
                  | nil => exact absurd h hn
                  | cons _ _ => rfl
                refine ⟨Nat.zero_le _, .inl ⟨_, rfl, ?_⟩⟩
                simp only [ne, Bool.false_eq_true, if_false]
                refine ⟨[l, .int 1, .int (far - 1)], _, rfl, ⟨l, 1, far - 1, rfl, rfl⟩, ?_⟩
                rw [num_lv]
                cases hv : lvB far l with
                | false =>
                  simp only [Bool.not_false, if_true, List.take_left']
                  exact bad (nv2.trans hv)
                | true =>
                  simp only [Bool.not_true, Bool.false_eq_true, if_false]
                  refine next _ _ ⟨d ++ [.tuple [.str a, l]], r, _, by simp [e], rfl, by rw [List.all_append, hd, List.all_cons, nv2, hv]; rfl, List.take_of_length_le (by simp), by simp only [startA, List.map_cons, List.map_nil, List.length_cons, List.length_nil, List.replicate, List.cons_append, List.nil_append, Nat.reduceAdd, Nat.reduceSub, Nat.zero_add, Nat.sub_self, List.getElem?_cons_zero, List.getElem?_cons_succ, Option.map_some, wRet, wRetN, wSeq, wNext, wDrop, wIfS, wAsg, wgN, wgTup, wgCons, wgNil, wPar, wOr, wAnd, Ab.wNot, wIf, wOp, wUn, wCB, wCons, wNil, wTup, wLst, wLstM, wV, wC, wB, wCh, Ab.wTru, wNotT, wAndT, wOrT, wSl, wNo, wSome, wCall, wIsI, wIsI2, wStrip, wRev, gPop, wDNew, wDNewM, wSlW, gSlW, gAddM, gTimes, itemsA, wML, wYes, gIn, gInS, gIx, gEqv, gLt, gOrd, gAdd, gMinus, gInt, gNeg, gIs, gSl, gLen, gAbs, gTwo, gI1, gApp, gExt, gTupOf, gListOf, gListM, ims, asQ, asT, asL, dat, tru, at0, at1, at2, id_eq, AV.und, keyA, Ab.isNon, wipeS, List.set_cons_zero, List.set_cons_succ, wgSub, gSt, retA, List.take_length, takeSet, takeSet2, List.foldl_cons, List.foldl_nil, List.zip_cons_cons, List.zip_nil_right, keepS_nil, keepS_cons, keepO_none, keepO_im, keepO_wl, List.length_set, List.length_append, List.set_set, true_and, any_pr, snocAt, snocTake, ims_map, ims_mapF, atD, Option.isSome_some, Option.isSome_none, if_true, if_false, Bool.false_eq_true, ite_true, ite_false, keepO_mu (show m.length < m.length + 1 by omega)] <;> rfl⟩
            · have : nodeB (talkers ss ts) far (.tuple [.str a, l]) = false := by
                show (decide (a ∈ talkers ss ts) && _) = false
                have nt : ¬ a ∈ talkers ss ts := fun z => ha (List.mem_filter.mp z).1
                rw [decide_eq_false nt, Bool.false_and]
              simp only [ha, decide_false, Bool.not_false, if_true]
              exact bad this
          | _ => simp only [startA, List.map_cons, List.map_nil, List.length_cons, List.length_nil, List.replicate, List.cons_append, List.nil_append, Nat.reduceAdd, Nat.reduceSub, Nat.zero_add, Nat.sub_self, List.getElem?_cons_zero, List.getElem?_cons_succ, Option.map_some, wRet, wRetN, wSeq, wNext, wDrop, wIfS, wAsg, wgN, wgTup, wgCons, wgNil, wPar, wOr, wAnd, Ab.wNot, wIf, wOp, wUn, wCB, wCons, wNil, wTup, wLst, wLstM, wV, wC, wB, wCh, Ab.wTru, wNotT, wAndT, wOrT, wSl, wNo, wSome, wCall, wIsI, wIsI2, wStrip, wRev, gPop, wDNew, wDNewM, wSlW, gSlW, gAddM, gTimes, itemsA, wML, wYes, gIn, gInS, gIx, gEqv, gLt, gOrd, gAdd, gMinus, gInt, gNeg, gIs, gSl, gLen, gAbs, gTwo, gI1, gApp, gExt, gTupOf, gListOf, gListM, ims, asQ, asT, asL, dat, tru, at0, at1, at2, id_eq, AV.und, keyA, Ab.isNon, wipeS, List.set_cons_zero, List.set_cons_succ, wgSub, gSt, retA, List.take_length, takeSet, takeSet2, List.foldl_cons, List.foldl_nil, List.zip_cons_cons, List.zip_nil_right, keepS_nil, keepS_cons, keepO_none, keepO_im, keepO_wl, List.length_set, List.length_append, List.set_set, true_and, any_pr, snocAt, snocTake, ims_map, ims_mapF, atD, Option.isSome_some, Option.isSome_none, if_true, if_false, Bool.false_eq_true, ite_true, ite_false, isStr, Bool.not_false, List.take_left']; exact bad rfl
        · have e2 : nodeB (talkers ss ts) far (.tuple ys) = false := by
            unfold nodeB
            split
            · rename_i h; cases h; exact absurd rfl h2
            · rfl
          have h3 : ¬ ((ys.length : Int) = 2) := by omega
          simp only [startA, List.map_cons, List.map_nil, List.length_cons, List.length_nil, List.replicate, List.cons_append, List.nil_append, Nat.reduceAdd, Nat.reduceSub, Nat.zero_add, Nat.sub_self, List.getElem?_cons_zero, List.getElem?_cons_succ, Option.map_some, wRet, wRetN, wSeq, wNext, wDrop, wIfS, wAsg, wgN, wgTup, wgCons, wgNil, wPar, wOr, wAnd, Ab.wNot, wIf, wOp, wUn, wCB, wCons, wNil, wTup, wLst, wLstM, wV, wC, wB, wCh, Ab.wTru, wNotT, wAndT, wOrT, wSl, wNo, wSome, wCall, wIsI, wIsI2, wStrip, wRev, gPop, wDNew, wDNewM, wSlW, gSlW, gAddM, gTimes, itemsA, wML, wYes, gIn, gInS, gIx, gEqv, gLt, gOrd, gAdd, gMinus, gInt, gNeg, gIs, gSl, gLen, gAbs, gTwo, gI1, gApp, gExt, gTupOf, gListOf, gListM, ims, asQ, asT, asL, dat, tru, at0, at1, at2, id_eq, AV.und, keyA, Ab.isNon, wipeS, List.set_cons_zero, List.set_cons_succ, wgSub, gSt, retA, List.take_length, takeSet, takeSet2, List.foldl_cons, List.foldl_nil, List.zip_cons_cons, List.zip_nil_right, keepS_nil, keepS_cons, keepO_none, keepO_im, keepO_wl, List.length_set, List.length_append, List.set_set, true_and, any_pr, snocAt, snocTake, ims_map, ims_mapF, atD, Option.isSome_some, Option.isSome_none, if_true, if_false, Bool.false_eq_true, ite_true, ite_false, h3, decide_false, Bool.not_false, if_true, List.take_left']
          exact bad e2
      | _ => simp only [startA, List.map_cons, List.map_nil, List.length_cons, List.length_nil, List.replicate, List.cons_append, List.nil_append, Nat.reduceAdd, Nat.reduceSub, Nat.zero_add, Nat.sub_self, List.getElem?_cons_zero, List.getElem?_cons_succ, Option.map_some, wRet, wRetN, wSeq, wNext, wDrop, wIfS, wAsg, wgN, wgTup, wgCons, wgNil, wPar, wOr, wAnd, Ab.wNot, wIf, wOp, wUn, wCB, wCons, wNil, wTup, wLst, wLstM, wV, wC, wB, wCh, Ab.wTru, wNotT, wAndT, wOrT, wSl, wNo, wSome, wCall, wIsI, wIsI2, wStrip, wRev, gPop, wDNew, wDNewM, wSlW, gSlW, gAddM, gTimes, itemsA, wML, wYes, gIn, gInS, gIx, gEqv, gLt, gOrd, gAdd, gMinus, gInt, gNeg, gIs, gSl, gLen, gAbs, gTwo, gI1, gApp, gExt, gTupOf, gListOf, gListM, ims, asQ, asT, asL, dat, tru, at0, at1, at2, id_eq, AV.und, keyA, Ab.isNon, wipeS, List.set_cons_zero, List.set_cons_succ, wgSub, gSt, retA, List.take_length, takeSet, takeSet2, List.foldl_cons, List.foldl_nil, List.zip_cons_cons, List.zip_nil_right, keepS_nil, keepS_cons, keepO_none, keepO_im, keepO_wl, List.length_set, List.length_append, List.set_set, true_and, any_pr, snocAt, snocTake, ims_map, ims_mapF, atD, Option.isSome_some, Option.isSome_none, if_true, if_false, Bool.false_eq_true, ite_true, ite_false, isTup, Bool.not_false, List.take_left']; exact bad rfl
    · rintro ρ m' ⟨d, r, o4, e, ex, hd, rfl, rfl⟩
      have er : r = [] := by cases r with | nil => rfl | cons _ _ => cases ex
      subst er
      rw [List.append_nil] at e
      subst e
      rw [hd, Bool.true_and] at q
      obtain ⟨ns, rfl, hns⟩ := nodes_all hd
      rw [toN_map] at q
      rw [List.length_map] at hl
      have ins : ∀ n ∈ ns, n.1 ∈ ss := fun n hn => (List.mem_filter.mp (hns n hn).1).1
      have oks : ∀ n ∈ ns, okS n.1 := fun n hn => (nv.s _ (ins n hn)).ok
      refine n3 _ _ (wSeq_of fun N4 n4 => ?_)
      clear n3 N3 b1 B1
      simp only [startA, List.map_cons, List.map_nil, List.length_cons, List.length_nil, List.replicate, List.cons_append, List.nil_append, Nat.reduceAdd, Nat.reduceSub, Nat.zero_add, Nat.sub_self, List.getElem?_cons_zero, List.getElem?_cons_succ, Option.map_some, wRet, wRetN, wSeq, wNext, wDrop, wIfS, wAsg, wgN, wgTup, wgCons, wgNil, wPar, wOr, wAnd, Ab.wNot, wIf, wOp, wUn, wCB, wCons, wNil, wTup, wLst, wLstM, wV, wC, wB, wCh, Ab.wTru, wNotT, wAndT, wOrT, wSl, wNo, wSome, wCall, wIsI, wIsI2, wStrip, wRev, gPop, wDNew, wDNewM, wSlW, gSlW, gAddM, gTimes, itemsA, wML, wYes, gIn, gInS, gIx, gEqv, gLt, gOrd, gAdd, gMinus, gInt, gNeg, gIs, gSl, gLen, gAbs, gTwo, gI1, gApp, gExt, gTupOf, gListOf, gListM, ims, asQ, asT, asL, dat, tru, at0, at1, at2, id_eq, AV.und, keyA, Ab.isNon, wipeS, List.set_cons_zero, List.set_cons_succ, wgSub, gSt, retA, List.take_length, takeSet, takeSet2, List.foldl_cons, List.foldl_nil, List.zip_cons_cons, List.zip_nil_right, keepS_nil, keepS_cons, keepO_none, keepO_im, keepO_wl, List.length_set, List.length_append, List.set_set, true_and, any_pr, snocAt, snocTake, ims_map, ims_mapF, atD, Option.isSome_some, Option.isSome_none, if_true, if_false, Bool.false_eq_true, ite_true, ite_false, wCB, gSortSetN]
      refine ⟨ns, rfl, by omega, fun ms hms hmem => .inr ?_⟩
      refine ⟨look_nodes oks, look_nodes fun n hn => oks n ((hmem n).mp hn), ?_⟩
      have ee : PyData.eqv (.list (ns.map nodeE)) (.list (ms.map nodeE)) = decide (ns = ms) := by
        simp only [PyData.eqv]; exact eqv_nodes ns ms
      rw [ee]
      cases hb : ascNB ns with
      | false =>
        have : ns ≠ ms := fun z => by
          rw [← z] at hms
          rw [(ascNB_iff ns).mpr hms] at hb; cases hb
        rw [hb, Bool.false_and] at q
        rw [decide_eq_false this]
        simp only [Bool.not_false, if_true, List.take_left']
        exact q
      | true =>
        have : ns = ms := asc_one ((ascNB_iff ns).mp hb) hms fun k => (hmem k).symm
        rw [hb, Bool.true_and, ← tail_adj nv] at q
        rw [decide_eq_true this]
        simp only [Bool.not_true, Bool.false_eq_true, if_false]
        clear this hmem hms ee
        refine n4 _ _ (wSeq_of fun N5 n5 => ?_)
        clear n4 N4
        refine wFor_of fun B2 b2 => ?_
        simp only [startA, List.map_cons, List.map_nil, List.length_cons, List.length_nil, List.replicate, List.cons_append, List.nil_append, Nat.reduceAdd, Nat.reduceSub, Nat.zero_add, Nat.sub_self, List.getElem?_cons_zero, List.getElem?_cons_succ, Option.map_some, wRet, wRetN, wSeq, wNext, wDrop, wIfS, wAsg, wgN, wgTup, wgCons, wgNil, wPar, wOr, wAnd, Ab.wNot, wIf, wOp, wUn, wCB, wCons, wNil, wTup, wLst, wLstM, wV, wC, wB, wCh, Ab.wTru, wNotT, wAndT, wOrT, wSl, wNo, wSome, wCall, wIsI, wIsI2, wStrip, wRev, gPop, wDNew, wDNewM, wSlW, gSlW, gAddM, gTimes, itemsA, wML, wYes, gIn, gInS, gIx, gEqv, gLt, gOrd, gAdd, gMinus, gInt, gNeg, gIs, gSl, gLen, gAbs, gTwo, gI1, gApp, gExt, gTupOf, gListOf, gListM, ims, asQ, asT, asL, dat, tru, at0, at1, at2, id_eq, AV.und, keyA, Ab.isNon, wipeS, List.set_cons_zero, List.set_cons_succ, wgSub, gSt, retA, List.take_length, takeSet, takeSet2, List.foldl_cons, List.foldl_nil, List.zip_cons_cons, List.zip_nil_right, keepS_nil, keepS_cons, keepO_none, keepO_im, keepO_wl, List.length_set, List.length_append, List.set_set, true_and, any_pr, snocAt, snocTake, ims_map, ims_mapF, atD, Option.isSome_some, Option.isSome_none, if_true, if_false, Bool.false_eq_true, ite_true, ite_false, wiEnumT]
        refine for_inv (fun rest ρ m' => ∃ (j : Nat) (o4 o5 : Option AV), rest = enumF j ((ns.drop j).map nodeE) ∧ j ≤ ns.length ∧ tailFree ts ns = tailFree ts (ns.drop j) ∧ m' = m ++ [.dk (besideC ss ts)] ∧ ρ = [some (.im (netD ss ts)), some (.im (.int far)), some (.im (.tuple (ns.map nodeE))), some (.mu m.length), o4, o5, none]) (fun _ _ _ _ => trivial) ?_ ?_ ⟨0, o4, none, rfl, Nat.zero_le _, rfl, rfl, rfl⟩
        · rintro x rest ρ m' nx ⟨j, o4, o5, ex, hj, ht, rfl, rfl⟩ next
          have hj2 : j < ns.length := by
            rcases Nat.lt_or_ge j ns.length with h | h
            · exact h
            · rw [List.drop_of_length_le (by omega)] at ex; cases ex
          rw [List.drop_eq_getElem_cons hj2] at ex ht
          simp only [List.map_cons, enumF, List.cons.injEq] at ex
          obtain ⟨rfl, rfl⟩ := ex
          have hp := List.getElem_mem hj2
          generalize ns[j] = p at ht hp
          refine b2 _ _ _ _ ?_
          simp only [startA, List.map_cons, List.map_nil, List.length_cons, List.length_nil, List.replicate, List.cons_append, List.nil_append, Nat.reduceAdd, Nat.reduceSub, Nat.zero_add, Nat.sub_self, List.getElem?_cons_zero, List.getElem?_cons_succ, Option.map_some, wRet, wRetN, wSeq, wNext, wDrop, wIfS, wAsg, wgN, wgTup, wgCons, wgNil, wPar, wOr, wAnd, Ab.wNot, wIf, wOp, wUn, wCB, wCons, wNil, wTup, wLst, wLstM, wV, wC, wB, wCh, Ab.wTru, wNotT, wAndT, wOrT, wSl, wNo, wSome, wCall, wIsI, wIsI2, wStrip, wRev, gPop, wDNew, wDNewM, wSlW, gSlW, gAddM, gTimes, itemsA, wML, wYes, gIn, gInS, gIx, gEqv, gLt, gOrd, gAdd, gMinus, gInt, gNeg, gIs, gSl, gLen, gAbs, gTwo, gI1, gApp, gExt, gTupOf, gListOf, gListM, ims, asQ, asT, asL, dat, tru, at0, at1, at2, id_eq, AV.und, keyA, Ab.isNon, wipeS, List.set_cons_zero, List.set_cons_succ, wgSub, gSt, retA, List.take_length, takeSet, takeSet2, List.foldl_cons, List.foldl_nil, List.zip_cons_cons, List.zip_nil_right, keepS_nil, keepS_cons, keepO_none, keepO_im, keepO_wl, List.length_set, List.length_append, List.set_set, true_and, any_pr, snocAt, snocTake, ims_map, ims_mapF, atD, Option.isSome_some, Option.isSome_none, if_true, if_false, Bool.false_eq_true, ite_true, ite_false, wLc, wLcs, wiAny]
          have ec : cutD (ns.map nodeE) (some ((j : Int) + 1)) none = (ns.drop (j + 1)).map nodeE := by
            unfold Ab.cutD
            have h1 : HT.sIx (ns.map nodeE).length 0 (some ((j : Int) + 1)) = j + 1 := by
              have := HT.sIx_nat (ns.map nodeE).length 0 (j + 1)
              rw [List.length_map] at this ⊢
              rw [show ((j : Int) + 1) = ((j + 1 : Nat) : Int) by omega, this]; omega
            have h2 : HT.sIx (ns.map nodeE).length (ns.map nodeE).length none = (ns.map nodeE).length := rfl
            rw [h1, h2, ← List.map_drop]
            exact List.take_of_length_le (by simp)
          rw [ec, List.map_map]
          have hb3 : ∀ c : Cell, (m ++ [c])[m.length]? = some c := fun c => by simp
          refine ⟨rfl, by rw [List.length_map, List.length_drop, sizeLine_eq]; omega, lc_map (ns.drop (j + 1)) _ (fun q => some (.im (.bool (due ts p q)))) trivial (by simp) (fun q hq Kt hk => ?_) (fun b _ z hz => by cases hz; rfl) ?_⟩
          · simp only [startA, List.map_cons, List.map_nil, List.length_cons, List.length_nil, List.replicate, List.cons_append, List.nil_append, Nat.reduceAdd, Nat.reduceSub, Nat.zero_add, Nat.sub_self, List.getElem?_cons_zero, List.getElem?_cons_succ, Option.map_some, wRet, wRetN, wSeq, wNext, wDrop, wIfS, wAsg, wgN, wgTup, wgCons, wgNil, wPar, wOr, wAnd, Ab.wNot, wIf, wOp, wUn, wCB, wCons, wNil, wTup, wLst, wLstM, wV, wC, wB, wCh, Ab.wTru, wNotT, wAndT, wOrT, wSl, wNo, wSome, wCall, wIsI, wIsI2, wStrip, wRev, gPop, wDNew, wDNewM, wSlW, gSlW, gAddM, gTimes, itemsA, wML, wYes, gIn, gInS, gIx, gEqv, gLt, gOrd, gAdd, gMinus, gInt, gNeg, gIs, gSl, gLen, gAbs, gTwo, gI1, gApp, gExt, gTupOf, gListOf, gListM, ims, asQ, asT, asL, dat, tru, at0, at1, at2, id_eq, AV.und, keyA, Ab.isNon, wipeS, List.set_cons_zero, List.set_cons_succ, wgSub, gSt, retA, List.take_length, takeSet, takeSet2, List.foldl_cons, List.foldl_nil, List.zip_cons_cons, List.zip_nil_right, keepS_nil, keepS_cons, keepO_none, keepO_im, keepO_wl, List.length_set, List.length_append, List.set_set, true_and, any_pr, snocAt, snocTake, ims_map, ims_mapF, atD, Option.isSome_some, Option.isSome_none, if_true, if_false, Bool.false_eq_true, ite_true, ite_false, turnL, Function.comp]
            exact ⟨m.length, ss, ts, p, q, rfl, hb3 _, nv, ins p hp, ins q (List.mem_of_mem_drop hq), hk⟩
          · have e4 := bools_map' (fun q : Str × Int => due ts p q) (ns.drop (j + 1))
            have e5 : ((ns.drop (j + 1)).map fun q => due ts p q).any id = (ns.drop (j + 1)).any fun q => due ts p q := by rw [List.any_map]; rfl
            rw [List.filterMap_eq_map', ims_mapF]
            simp only [gAll, asL, e4, e5]
            rw [tailFree] at ht
            cases ha : (ns.drop (j + 1)).any fun q => due ts p q with
            | true =>
              rw [ha] at ht
              rw [ht] at q
              simp only [if_true, List.take_left']
              exact q
            | false =>
              rw [ha, Bool.not_false, Bool.true_and] at ht
              simp only [Bool.false_eq_true, if_false]
              exact next _ _ ⟨j + 1, _, _, rfl, hj2, ht, List.take_of_length_le (by simp), by simp only [startA, List.map_cons, List.map_nil, List.length_cons, List.length_nil, List.replicate, List.cons_append, List.nil_append, Nat.reduceAdd, Nat.reduceSub, Nat.zero_add, Nat.sub_self, List.getElem?_cons_zero, List.getElem?_cons_succ, Option.map_some, wRet, wRetN, wSeq, wNext, wDrop, wIfS, wAsg, wgN, wgTup, wgCons, wgNil, wPar, wOr, wAnd, Ab.wNot, wIf, wOp, wUn, wCB, wCons, wNil, wTup, wLst, wLstM, wV, wC, wB, wCh, Ab.wTru, wNotT, wAndT, wOrT, wSl, wNo, wSome, wCall, wIsI, wIsI2, wStrip, wRev, gPop, wDNew, wDNewM, wSlW, gSlW, gAddM, gTimes, itemsA, wML, wYes, gIn, gInS, gIx, gEqv, gLt, gOrd, gAdd, gMinus, gInt, gNeg, gIs, gSl, gLen, gAbs, gTwo, gI1, gApp, gExt, gTupOf, gListOf, gListM, ims, asQ, asT, asL, dat, tru, at0, at1, at2, id_eq, AV.und, keyA, Ab.isNon, wipeS, List.set_cons_zero, List.set_cons_succ, wgSub, gSt, retA, List.take_length, takeSet, takeSet2, List.foldl_cons, List.foldl_nil, List.zip_cons_cons, List.zip_nil_right, keepS_nil, keepS_cons, keepO_none, keepO_im, keepO_wl, List.length_set, List.length_append, List.set_set, true_and, any_pr, snocAt, snocTake, ims_map, ims_mapF, atD, Option.isSome_some, Option.isSome_none, if_true, if_false, Bool.false_eq_true, ite_true, ite_false, keepO_mu (show m.length < m.length + 1 by omega)] <;> rfl⟩
        · rintro ρ m' ⟨j, o4, o5, ex, hj, ht, rfl, rfl⟩
          have hj3 : ns.drop j = [] := by
            cases h : ns.drop j with
            | nil => rfl
            | cons a r => rw [h] at ex; cases ex
          rw [hj3] at ht
          rw [ht] at q
          refine n5 _ _ ?_
          simp only [startA, List.map_cons, List.map_nil, List.length_cons, List.length_nil, List.replicate, List.cons_append, List.nil_append, Nat.reduceAdd, Nat.reduceSub, Nat.zero_add, Nat.sub_self, List.getElem?_cons_zero, List.getElem?_cons_succ, Option.map_some, wRet, wRetN, wSeq, wNext, wDrop, wIfS, wAsg, wgN, wgTup, wgCons, wgNil, wPar, wOr, wAnd, Ab.wNot, wIf, wOp, wUn, wCB, wCons, wNil, wTup, wLst, wLstM, wV, wC, wB, wCh, Ab.wTru, wNotT, wAndT, wOrT, wSl, wNo, wSome, wCall, wIsI, wIsI2, wStrip, wRev, gPop, wDNew, wDNewM, wSlW, gSlW, gAddM, gTimes, itemsA, wML, wYes, gIn, gInS, gIx, gEqv, gLt, gOrd, gAdd, gMinus, gInt, gNeg, gIs, gSl, gLen, gAbs, gTwo, gI1, gApp, gExt, gTupOf, gListOf, gListM, ims, asQ, asT, asL, dat, tru, at0, at1, at2, id_eq, AV.und, keyA, Ab.isNon, wipeS, List.set_cons_zero, List.set_cons_succ, wgSub, gSt, retA, List.take_length, takeSet, takeSet2, List.foldl_cons, List.foldl_nil, List.zip_cons_cons, List.zip_nil_right, keepS_nil, keepS_cons, keepO_none, keepO_im, keepO_wl, List.length_set, List.length_append, List.set_set, true_and, any_pr, snocAt, snocTake, ims_map, ims_mapF, atD, Option.isSome_some, Option.isSome_none, if_true, if_false, Bool.false_eq_true, ite_true, ite_false, List.take_left']
          exact q
  | _ => simp only [startA, List.map_cons, List.map_nil, List.length_cons, List.length_nil, List.replicate, List.cons_append, List.nil_append, Nat.reduceAdd, Nat.reduceSub, Nat.zero_add, Nat.sub_self, List.getElem?_cons_zero, List.getElem?_cons_succ, Option.map_some, wRet, wRetN, wSeq, wNext, wDrop, wIfS, wAsg, wgN, wgTup, wgCons, wgNil, wPar, wOr, wAnd, Ab.wNot, wIf, wOp, wUn, wCB, wCons, wNil, wTup, wLst, wLstM, wV, wC, wB, wCh, Ab.wTru, wNotT, wAndT, wOrT, wSl, wNo, wSome, wCall, wIsI, wIsI2, wStrip, wRev, gPop, wDNew, wDNewM, wSlW, gSlW, gAddM, gTimes, itemsA, wML, wYes, gIn, gInS, gIx, gEqv, gLt, gOrd, gAdd, gMinus, gInt, gNeg, gIs, gSl, gLen, gAbs, gTwo, gI1, gApp, gExt, gTupOf, gListOf, gListM, ims, asQ, asT, asL, dat, tru, at0, at1, at2, id_eq, AV.und, keyA, Ab.isNon, wipeS, List.set_cons_zero, List.set_cons_succ, wgSub, gSt, retA, List.take_length, takeSet, takeSet2, List.foldl_cons, List.foldl_nil, List.zip_cons_cons, List.zip_nil_right, keepS_nil, keepS_cons, keepO_none, keepO_im, keepO_wl, List.length_set, List.length_append, List.set_set, true_and, any_pr, snocAt, snocTake, ims_map, ims_mapF, atD, Option.isSome_some, Option.isSome_none, if_true, if_false, Bool.false_eq_true, ite_true, ite_false, isTup, Bool.not_false, List.take_left']; exact q
end
end K14
end

section
set_option maxRecDepth 100000
set_option maxHeartbeats 8000000
namespace K14
open PySem PySem.Spec PyProof.Rows L2 Gd Ab
abbrev s_drawn : Stmt := topS 23
theorem sc_drawn : FnScope ["_law_deck_here", "_law_net", "_law_far", "_law_is_kept", "_law_beside_here", "_law_found", "_law_some", "_law_turn", "_law_node", "_law_is_near", "_law_service", "_law_other"] ["_law_deck_here", "_law_net", "_law_far", "_law_is_kept"] (defScope s_drawn) := ⟨rfl, rfl, rfl, by decide +kernel, rfl, by decide +kernel, by decide +kernel⟩
section
variable {P : Program} {w : World} {K : PySem.W.Frag} {mg : Str → Option Value} {base : Heap} {t0 : Tok}
def NdOk (ss : List Str) (far : Int) (n : Str × Int) : Prop := n.1 ∈ ss ∧ 1 ≤ n.2 ∧ n.2 < far
def aDrawn : ASp := fun ds m P _ => ∃ (i n : Nat) (ss : List Str) (ts : List (Str × Str)) (far : Nat) (b : Bool), ds = [.mu i, .im (netD ss ts), .im (.int far), .im (.bool b)] ∧ Dk m i n ∧ n ≤ 900000 ∧ NetV ss ts ∧ far ≤ 12 ∧
  ∀ (ns : List (Str × Int)) (c : Cell), (∀ x ∈ ns, NdOk ss far x) → ns.length ≤ 19 → dkC (n + 39) c → P (.im (.tuple (ns.map nodeE))) (m.set i c)
theorem any_node (ns : List (Str × Int)) (p : Str × Int) : ((ns.map nodeE).any fun y => PyData.eqv y (nodeE p)) = decide (p ∈ ns) := by
  induction ns with
  | nil => rfl
  | cons q r ih =>
    rw [List.map_cons, List.any_cons, ih]
    have e : PyData.eqv (nodeE q) (nodeE p) = decide (q = p) := by
      have := eqv_nodes [q] [p]
      simp only [List.map_cons, List.map_nil, PyData.eqvAll, Bool.and_true] at this
      rw [this]; simp
    rw [e]
    by_cases h : q = p
    · simp [h]
    · have h' : ¬ p = q := fun z => h z.symm
      simp [h, h']
theorem look_node {p : Str × Int} (h : okS p.1) : Ab.Look (nodeE p) := by
  refine ⟨?_, by simp [PyData.depth, PyData.depthAll]⟩
  have := lay_nodes (ns := [p]) fun n hn => by rw [List.mem_singleton.mp hn]; exact h
  simp only [List.map_cons, List.map_nil, PyData.canLayAll0, Bool.and_true] at this
  exact this
theorem ok_drawn (hB : Bs mg t0) (D : Defd K mg "_law_drawn" s_drawn) (C_law_draw : Callee P w K mg base CX0 1 "_law_draw" ["_law_deck_here", "_law_many"] (lift aDraw)) (C_law_any : Callee P w K mg base CX0 2 "_law_any" ["_law_deck_here", "_law_items"] (lift aAny)) (C_law_beside : Callee P w K mg base CX0 1 "_law_beside" ["_law_network_here"] (lift aBeside)) (C_law_touch : Callee P w K mg base CX0 1 "_law_touch" ["_law_beside_here", "_law_one", "_law_other"] (lift aTouch)) :
    Callee P w K mg base CX0 3 "_law_drawn" ["_law_deck_here", "_law_net", "_law_far", "_law_is_kept"] (lift aDrawn) := by
  refine okA D sc_drawn (fun _ _ _ _ _ _ us hl => match us, hl with | [_, _, _, _], _ => rfl) (fun ds m Q EA ⟨_, _, _, _, _, _, e, _⟩ => by rw [e]; rfl) fun f cdv A outer s H E B hgu hr => ?_
  refine ⟨_, _, (ss_cons (s_asg (ae_tup (al_cons (ae_call C_law_beside hgu (hr.mono (by omega)) (by rfl) pass0 (al_cons (ae_v (pv 1)) al_nil)) (al_cons (ae_lstM al_nil) al_nil))) (g_tup (K := K) rfl rfl (gs_cons (g_name (pg_name (i := 4) sc_drawn.nd rfl (.inr rfl))) (gs_cons (g_name (pg_name (i := 5) sc_drawn.nd rfl (.inl rfl))) gs_nil))))
        (ss_cons (s_setLc (own := [("_law_service", 10)]) (g := (gName 10)) (i := 6) rfl sc_drawn.nd rfl rfl (sw_true rfl rfl rfl (by decide +kernel)) (ai_any (K := K) rfl (ae_ix hr (ae_v (pv 1)) ae_int (fun _ _ => rfl))) (blkOk_by (N := ["_law_deck_here", "_law_net", "_law_far", "_law_is_kept", "_law_beside_here", "_law_found", "_law_some", "_law_turn", "_law_node", "_law_is_near", "_law_service", "_law_other"]) (sc := defScope s_drawn) (by decide +kernel)) (fun _ _ _ _ _ => (g_name (pg_name (i := 10) sc_drawn.nd rfl (.inl rfl)))) (own_name (by decide)) (mono_name _) (fun _ _ _ _ _ => (ts_one (at_cmp (oa_ne hr) (ae_ix hr (ae_v (pv 4)) (ae_v (pv 10)) (fun _ _ => rfl)) (ae_lst al_nil) (nomark _)))) (fun _ _ _ _ _ => (ae_v (pv 10))))
        (ss_cons (s_for PassesOwn.never rfl (ai_r1 (by rfl) hB.range (al_cons (ae_if (AW.at (aw_and (at_cmp (oa_ne hr) (ae_v (pv 6)) (ae_lst al_nil) (nomark _)) (aw_and1 (at_cmp oa_gt (ae_v (pv 2)) ae_int (nomark _))))) (ae_call C_law_draw hgu (hr.mono (by omega)) (by rfl) pass0 (al_cons (ae_v (pv 0)) (al_cons ae_int al_nil))) ae_int) al_nil)) (g_name (pg_name (i := 7) sc_drawn.nd rfl (.inl rfl))) (ss_cons (s_set (i := 8) sc_drawn.nd rfl (.inr rfl) (ae_tup (al_cons (ae_call C_law_any hgu (hr.mono (by omega)) (by rfl) pass0 (al_cons (ae_v (pv 0)) (al_cons (ae_v (pv 6)) al_nil))) (al_cons (ae_op oa_add ae_int (ae_call C_law_draw hgu (hr.mono (by omega)) (by rfl) pass0 (al_cons (ae_v (pv 0)) (al_cons (ae_op oa_sub (ae_v (pv 2)) ae_int) al_nil)))) al_nil))))
        (ss_cons (s_set (i := 9) sc_drawn.nd rfl (.inl rfl) (ae_callB (ca_any rfl) (by rfl) hB.any (by decide +kernel) (al_cons (ae_lc (own := [("_law_other", 11)]) (g := (gName 11)) rfl sc_drawn.nd (ai_any (K := K) rfl (ae_v (pv 5))) (blkOk_by (N := ["_law_deck_here", "_law_net", "_law_far", "_law_is_kept", "_law_beside_here", "_law_found", "_law_some", "_law_turn", "_law_node", "_law_is_near", "_law_service", "_law_other"]) (sc := defScope s_drawn) (by decide +kernel)) (fun _ _ _ _ _ => (g_name (pg_name (i := 11) sc_drawn.nd rfl (.inl rfl)))) (own_name (by decide)) (mono_name _) (fun _ _ _ _ _ => ts_nil) (fun _ _ _ _ _ => (ae_call C_law_touch hgu (hr.mono (by omega)) (by rfl) pass0 (al_cons (ae_v (pv 4)) (al_cons (ae_v (pv 8)) (al_cons (ae_v (pv 11)) al_nil)))))) al_nil)))
        (ss_one (s_if (AW.at (aw_and (at_cmp (oa_notin hr) (ae_v (pv 8)) (ae_v (pv 5)) (by rfl)) (aw_and1 (at_not (AW.at (aw_and (at_tru (K := K) rfl (ae_v (pv 3))) (aw_and1 (at_tru (K := K) rfl (ae_v (pv 9)))))))))) (ss_one (s_expr (ae_ml (K := K) PySem.F.plainAttrs_list PySem.F.slot_list_append PySem.F.type_list_append ma_append (ae_v (pv 5)) (al_cons (ae_v (pv 8)) al_nil)))) ss_nil)))))
        (ss_one (s_ret (ae_callTy (ca_tuple rfl) (by rfl) hB.tuple (by decide +kernel) (al_cons (ae_callB (ca_sorted hr) (by rfl) hB.sorted (by decide +kernel) (al_cons (ae_v (pv 5)) al_nil)) al_nil))))))), ?_⟩
  rintro _ m Q ⟨i, n, ss, ts, far, b, rfl, ⟨c0, hm, hc0⟩, hn, nv, hfar, q⟩
  have hi : i < m.length := (List.getElem?_eq_some_iff.mp hm).1
  refine wSeq_of fun N1 n1 => ?_
  simp only [startA, List.map_cons, List.map_nil, List.length_cons, List.length_nil, List.replicate, List.cons_append, List.nil_append, Nat.reduceAdd, Nat.reduceSub, Nat.zero_add, Nat.sub_self, List.getElem?_cons_zero, List.getElem?_cons_succ, Option.map_some, wRet, wRetN, wSeq, wNext, wDrop, wIfS, wAsg, wgN, wgTup, wgCons, wgNil, wPar, wOr, wAnd, Ab.wNot, wIf, wOp, wUn, wCB, wCons, wNil, wTup, wLst, wLstM, wV, wC, wB, wCh, Ab.wTru, wNotT, wAndT, wOrT, wSl, wNo, wSome, wCall, wIsI, wIsI2, wStrip, wRev, gPop, wDNew, wDNewM, wSlW, gSlW, gAddM, gTimes, itemsA, wML, wYes, gIn, gInS, gIx, gEqv, gLt, gOrd, gAdd, gMinus, gInt, gNeg, gIs, gSl, gLen, gAbs, gTwo, gI1, gApp, gExt, gTupOf, gListOf, gListM, ims, asQ, asT, asL, dat, tru, at0, at1, at2, id_eq, AV.und, keyA, Ab.isNon, wipeS, List.set_cons_zero, List.set_cons_succ, wgSub, gSt, retA, List.take_length, takeSet, takeSet2, List.foldl_cons, List.foldl_nil, List.zip_cons_cons, List.zip_nil_right, keepS_nil, keepS_cons, keepO_none, keepO_im, keepO_wl, List.length_set, List.length_append, List.set_set, true_and, any_pr, snocAt, snocTake, ims_map, ims_mapF, atD, Option.isSome_some, Option.isSome_none, if_true, if_false, Bool.false_eq_true, ite_true, ite_false]
  refine ⟨ss, ts, rfl, nv, ?_⟩
  simp only [startA, List.map_cons, List.map_nil, List.length_cons, List.length_nil, List.replicate, List.cons_append, List.nil_append, Nat.reduceAdd, Nat.reduceSub, Nat.zero_add, Nat.sub_self, List.getElem?_cons_zero, List.getElem?_cons_succ, Option.map_some, wRet, wRetN, wSeq, wNext, wDrop, wIfS, wAsg, wgN, wgTup, wgCons, wgNil, wPar, wOr, wAnd, Ab.wNot, wIf, wOp, wUn, wCB, wCons, wNil, wTup, wLst, wLstM, wV, wC, wB, wCh, Ab.wTru, wNotT, wAndT, wOrT, wSl, wNo, wSome, wCall, wIsI, wIsI2, wStrip, wRev, gPop, wDNew, wDNewM, wSlW, gSlW, gAddM, gTimes, itemsA, wML, wYes, gIn, gInS, gIx, gEqv, gLt, gOrd, gAdd, gMinus, gInt, gNeg, gIs, gSl, gLen, gAbs, gTwo, gI1, gApp, gExt, gTupOf, gListOf, gListM, ims, asQ, asT, asL, dat, tru, at0, at1, at2, id_eq, AV.und, keyA, Ab.isNon, wipeS, List.set_cons_zero, List.set_cons_succ, wgSub, gSt, retA, List.take_length, takeSet, takeSet2, List.foldl_cons, List.foldl_nil, List.zip_cons_cons, List.zip_nil_right, keepS_nil, keepS_cons, keepO_none, keepO_im, keepO_wl, List.length_set, List.length_append, List.set_set, true_and, any_pr, snocAt, snocTake, ims_map, ims_mapF, atD, Option.isSome_some, Option.isSome_none, if_true, if_false, Bool.false_eq_true, ite_true, ite_false]
  refine ⟨Nat.zero_le _, rfl, n1 _ _ (wSeq_of fun N2 n2 => ?_)⟩
  clear n1 N1
  simp only [startA, List.map_cons, List.map_nil, List.length_cons, List.length_nil, List.replicate, List.cons_append, List.nil_append, Nat.reduceAdd, Nat.reduceSub, Nat.zero_add, Nat.sub_self, List.getElem?_cons_zero, List.getElem?_cons_succ, Option.map_some, wRet, wRetN, wSeq, wNext, wDrop, wIfS, wAsg, wgN, wgTup, wgCons, wgNil, wPar, wOr, wAnd, Ab.wNot, wIf, wOp, wUn, wCB, wCons, wNil, wTup, wLst, wLstM, wV, wC, wB, wCh, Ab.wTru, wNotT, wAndT, wOrT, wSl, wNo, wSome, wCall, wIsI, wIsI2, wStrip, wRev, gPop, wDNew, wDNewM, wSlW, gSlW, gAddM, gTimes, itemsA, wML, wYes, gIn, gInS, gIx, gEqv, gLt, gOrd, gAdd, gMinus, gInt, gNeg, gIs, gSl, gLen, gAbs, gTwo, gI1, gApp, gExt, gTupOf, gListOf, gListM, ims, asQ, asT, asL, dat, tru, at0, at1, at2, id_eq, AV.und, keyA, Ab.isNon, wipeS, List.set_cons_zero, List.set_cons_succ, wgSub, gSt, retA, List.take_length, takeSet, takeSet2, List.foldl_cons, List.foldl_nil, List.zip_cons_cons, List.zip_nil_right, keepS_nil, keepS_cons, keepO_none, keepO_im, keepO_wl, List.length_set, List.length_append, List.set_set, true_and, any_pr, snocAt, snocTake, ims_map, ims_mapF, atD, Option.isSome_some, Option.isSome_none, if_true, if_false, Bool.false_eq_true, ite_true, ite_false, wLc, wLcs, wiAny]
  rw [show m ++ [Cell.dk (besideC ss ts)] ++ [Cell.lst []] = m ++ [Cell.dk (besideC ss ts), Cell.lst []] by simp, List.map_map]
  have hls := nv.ls
  have L1 : ∀ (c d : Cell) (l : List Cell), (m.set i c ++ (.dk (besideC ss ts) :: d :: l))[m.length + 1]? = some d := fun c d l => by
    rw [List.getElem?_append_right (by simp)]; simp
  have S1 : ∀ (c d d' : Cell) (l : List Cell), (m.set i c ++ (.dk (besideC ss ts) :: d :: l)).set (m.length + 1) d' = m.set i c ++ (.dk (besideC ss ts) :: d' :: l) := fun c d d' l => by
    rw [List.set_append_right _ _ (by simp)]; simp
  have L0 : ∀ (c : Cell) (l : List Cell), (m.set i c ++ (.dk (besideC ss ts) :: l))[m.length]? = some (.dk (besideC ss ts)) := fun c l => getEnd (by simp) _
  have Li : ∀ (c : Cell) (l : List Cell), (m.set i c ++ l)[i]? = some c := fun c l => by rw [getApp (by simpa using hi), getSet hi]
  have Si : ∀ (c c' : Cell) (l : List Cell), (m.set i c ++ l).set i c' = m.set i c' ++ l := fun c c' l => by rw [setApp (by simpa using hi), List.set_set]
  rw [← setSame hm]
  refine ⟨by rw [List.length_map, sizeLine_eq]; omega, lc_map ss _ (fun a => if (!(nbS ts a).isEmpty) = true then some (.im (.str a)) else none) trivial (by simp) (fun a ha Kt hk => ?_) (fun a _ z hz => ?_) ?_⟩
  · simp only [startA, List.map_cons, List.map_nil, List.length_cons, List.length_nil, List.replicate, List.cons_append, List.nil_append, Nat.reduceAdd, Nat.reduceSub, Nat.zero_add, Nat.sub_self, List.getElem?_cons_zero, List.getElem?_cons_succ, Option.map_some, wRet, wRetN, wSeq, wNext, wDrop, wIfS, wAsg, wgN, wgTup, wgCons, wgNil, wPar, wOr, wAnd, Ab.wNot, wIf, wOp, wUn, wCB, wCons, wNil, wTup, wLst, wLstM, wV, wC, wB, wCh, Ab.wTru, wNotT, wAndT, wOrT, wSl, wNo, wSome, wCall, wIsI, wIsI2, wStrip, wRev, gPop, wDNew, wDNewM, wSlW, gSlW, gAddM, gTimes, itemsA, wML, wYes, gIn, gInS, gIx, gEqv, gLt, gOrd, gAdd, gMinus, gInt, gNeg, gIs, gSl, gLen, gAbs, gTwo, gI1, gApp, gExt, gTupOf, gListOf, gListM, ims, asQ, asT, asL, dat, tru, at0, at1, at2, id_eq, AV.und, keyA, Ab.isNon, wipeS, List.set_cons_zero, List.set_cons_succ, wgSub, gSt, retA, List.take_length, takeSet, takeSet2, List.foldl_cons, List.foldl_nil, List.zip_cons_cons, List.zip_nil_right, keepS_nil, keepS_cons, keepO_none, keepO_im, keepO_wl, List.length_set, List.length_append, List.set_set, true_and, any_pr, snocAt, snocTake, ims_map, ims_mapF, atD, Option.isSome_some, Option.isSome_none, if_true, if_false, Bool.false_eq_true, ite_true, ite_false, turnL, Function.comp, L0, look_beside ha]
    refine ⟨Nat.zero_le _, .inl ⟨_, rfl, ?_⟩⟩
    have e : ((nbS ts a).map PyData.str).isEmpty = (nbS ts a).isEmpty := by cases nbS ts a <;> rfl
    rw [e]
    cases h : (nbS ts a).isEmpty with
    | true => rw [h] at hk; simpa using hk
    | false => rw [h] at hk; simpa using hk
  · split at hz
    · cases hz; rfl
    · cases hz
  rw [filterMap_if (fun a => !(nbS ts a).isEmpty) (fun a => AV.im (.str a)), ims_mapF]
  have hsv : ∀ a ∈ ss.filter (fun a => !(nbS ts a).isEmpty), a ∈ ss := fun a ha => (List.mem_filter.mp ha).1
  have hsl : (ss.filter fun a => !(nbS ts a).isEmpty).length ≤ ss.length := List.length_filter_le _ _
  generalize ss.filter (fun a => !(nbS ts a).isEmpty) = sv at hsv hsl
  refine n2 _ _ (wSeq_of fun N3 n3 => ?_)
  clear n2 N2
  refine wFor_of fun B1 b1 => ?_
  simp only [startA, List.map_cons, List.map_nil, List.length_cons, List.length_nil, List.replicate, List.cons_append, List.nil_append, Nat.reduceAdd, Nat.reduceSub, Nat.zero_add, Nat.sub_self, List.getElem?_cons_zero, List.getElem?_cons_succ, Option.map_some, wRet, wRetN, wSeq, wNext, wDrop, wIfS, wAsg, wgN, wgTup, wgCons, wgNil, wPar, wOr, wAnd, Ab.wNot, wIf, wOp, wUn, wCB, wCons, wNil, wTup, wLst, wLstM, wV, wC, wB, wCh, Ab.wTru, wNotT, wAndT, wOrT, wSl, wNo, wSome, wCall, wIsI, wIsI2, wStrip, wRev, gPop, wDNew, wDNewM, wSlW, gSlW, gAddM, gTimes, itemsA, wML, wYes, gIn, gInS, gIx, gEqv, gLt, gOrd, gAdd, gMinus, gInt, gNeg, gIs, gSl, gLen, gAbs, gTwo, gI1, gApp, gExt, gTupOf, gListOf, gListM, ims, asQ, asT, asL, dat, tru, at0, at1, at2, id_eq, AV.und, keyA, Ab.isNon, wipeS, List.set_cons_zero, List.set_cons_succ, wgSub, gSt, retA, List.take_length, takeSet, takeSet2, List.foldl_cons, List.foldl_nil, List.zip_cons_cons, List.zip_nil_right, keepS_nil, keepS_cons, keepO_none, keepO_im, keepO_wl, List.length_set, List.length_append, List.set_set, true_and, any_pr, snocAt, snocTake, ims_map, ims_mapF, atD, Option.isSome_some, Option.isSome_none, if_true, if_false, Bool.false_eq_true, ite_true, ite_false, wiR1]
  have end_ : ∀ (cnt : Nat) (c : Cell) (ns : List (Str × Int)) (r : Slots), dkC cnt c → cnt ≤ n + 39 → (∀ x ∈ ns, NdOk ss far x) → ns.length ≤ 19 → r.length = 5 → N3 ([some (.mu i), some (.im (netD ss ts)), some (.im (.int far)), some (.im (.bool b)), some (.mu m.length), some (.mu (m.length + 1)), some (.wl (sv.map .str))] ++ r) (m.set i c ++ [.dk (besideC ss ts), .lst (ns.map fun p => .im (nodeE p))]) := fun cnt c ns r hc hcnt hns hnl hr => by
    refine n3 _ _ ?_
    clear n3 b1
    have alike : W.AllAlike (ns.map nodeE) := fun x hx y hy => by
      obtain ⟨p, _, rfl⟩ := List.mem_map.mp hx
      obtain ⟨q, _, rfl⟩ := List.mem_map.mp hy
      rfl
    have sortable : W.Sortable (ns.map nodeE) := .inl fun x hx => by
      obtain ⟨p, _, rfl⟩ := List.mem_map.mp hx
      exact ⟨_, _, rfl⟩
    have es : sortD (ns.map nodeE) = (ns.mergeSort fun p q => !W.dataLt (nodeE q) (nodeE p)).map nodeE := by
      unfold sortD
      symm
      exact List.map_mergeSort fun a _ b _ => rfl
    have pm := List.mergeSort_perm ns fun p q => !W.dataLt (nodeE q) (nodeE p)
    simp only [startA, List.map_cons, List.map_nil, List.length_cons, List.length_nil, List.replicate, List.cons_append, List.nil_append, Nat.reduceAdd, Nat.reduceSub, Nat.zero_add, Nat.sub_self, List.getElem?_cons_zero, List.getElem?_cons_succ, Option.map_some, wRet, wRetN, wSeq, wNext, wDrop, wIfS, wAsg, wgN, wgTup, wgCons, wgNil, wPar, wOr, wAnd, Ab.wNot, wIf, wOp, wUn, wCB, wCons, wNil, wTup, wLst, wLstM, wV, wC, wB, wCh, Ab.wTru, wNotT, wAndT, wOrT, wSl, wNo, wSome, wCall, wIsI, wIsI2, wStrip, wRev, gPop, wDNew, wDNewM, wSlW, gSlW, gAddM, gTimes, itemsA, wML, wYes, gIn, gInS, gIx, gEqv, gLt, gOrd, gAdd, gMinus, gInt, gNeg, gIs, gSl, gLen, gAbs, gTwo, gI1, gApp, gExt, gTupOf, gListOf, gListM, ims, asQ, asT, asL, dat, tru, at0, at1, at2, id_eq, AV.und, keyA, Ab.isNon, wipeS, List.set_cons_zero, List.set_cons_succ, wgSub, gSt, retA, List.take_length, takeSet, takeSet2, List.foldl_cons, List.foldl_nil, List.zip_cons_cons, List.zip_nil_right, keepS_nil, keepS_cons, keepO_none, keepO_im, keepO_wl, List.length_set, List.length_append, List.set_set, true_and, any_pr, snocAt, snocTake, ims_map, ims_mapF, atD, Option.isSome_some, Option.isSome_none, if_true, if_false, Bool.false_eq_true, ite_true, ite_false, L1, gSorted, es]
    refine ⟨alike, sortable, fun x hx => ?_, ?_⟩
    · obtain ⟨p, _, rfl⟩ := List.mem_map.mp hx
      simp [PyData.depth, PyData.depthAll]
    · exact q _ c (fun x hx => hns x (pm.mem_iff.mp hx)) (by rw [pm.length_eq]; exact hnl) (hc.mono hcnt)
  have loop : ∀ (k : Nat) (c : Cell) (cnt : Nat), (0 < k → sv ≠ [] ∧ 1 < far) → k ≤ 19 → dkC cnt c → cnt + 2 * k ≤ n + 39 → forL (m.length + 2) yes B1 { nx := N3, rt := retA m.length Q } (rngL 0 k) [some (.mu i), some (.im (netD ss ts)), some (.im (.int far)), some (.im (.bool b)), some (.mu m.length), some (.mu (m.length + 1)), some (.wl (sv.map .str)), none, none, none, none, none] (m.set i c ++ [.dk (besideC ss ts), .lst []]) := fun k c cnt hk hk19 hc hcnt => by
    refine for_inv (fun rest ρ m' => ∃ (cnt : Nat) (c : Cell) (ns : List (Str × Int)) (r : Slots), cnt + 2 * rest.length ≤ n + 39 ∧ (0 < rest.length → sv ≠ [] ∧ 1 < far) ∧ dkC cnt c ∧ (∀ x ∈ ns, NdOk ss far x) ∧ ns.length + rest.length ≤ 19 ∧ m' = m.set i c ++ [.dk (besideC ss ts), .lst (ns.map fun p => .im (nodeE p))] ∧ ρ = [some (.mu i), some (.im (netD ss ts)), some (.im (.int far)), some (.im (.bool b)), some (.mu m.length), some (.mu (m.length + 1)), some (.wl (sv.map .str))] ++ r ∧ r.length = 5) (fun _ _ _ _ => trivial) ?_ ?_
      ⟨cnt, c, [], _, by simpa [rngL] using hcnt, by simpa [rngL] using hk, hc, (fun _ h => by cases h), by simpa [rngL] using hk19, rfl, rfl, rfl⟩
    · rintro x rest ρ m' nx ⟨cnt, c, ns, r, hcnt, hk, hc, hns, hnl, rfl, rfl, hr⟩ next
      obtain ⟨h1, h2⟩ := hk (by simp)
      rw [List.length_cons] at hcnt hnl
      obtain ⟨o7, o8, o9, o10, o11, rfl⟩ : ∃ a b c d e, r = [a, b, c, d, e] := by
        match r, hr with
        | [a, b, c, d, e], _ => exact ⟨a, b, c, d, e, rfl⟩
      refine b1 _ _ _ _ ?_
      simp only [wgN, wgTup, wgCons, wgNil, List.map_cons, List.map_nil, List.set_cons_zero, List.set_cons_succ, List.length_cons, List.length_nil]
      refine wSeq_of fun N4 n4 => ?_
      have hsv0 : 0 < sv.length := List.length_pos_iff.mpr h1
      simp only [startA, List.map_cons, List.map_nil, List.length_cons, List.length_nil, List.replicate, List.cons_append, List.nil_append, Nat.reduceAdd, Nat.reduceSub, Nat.zero_add, Nat.sub_self, List.getElem?_cons_zero, List.getElem?_cons_succ, Option.map_some, wRet, wRetN, wSeq, wNext, wDrop, wIfS, wAsg, wgN, wgTup, wgCons, wgNil, wPar, wOr, wAnd, Ab.wNot, wIf, wOp, wUn, wCB, wCons, wNil, wTup, wLst, wLstM, wV, wC, wB, wCh, Ab.wTru, wNotT, wAndT, wOrT, wSl, wNo, wSome, wCall, wIsI, wIsI2, wStrip, wRev, gPop, wDNew, wDNewM, wSlW, gSlW, gAddM, gTimes, itemsA, wML, wYes, gIn, gInS, gIx, gEqv, gLt, gOrd, gAdd, gMinus, gInt, gNeg, gIs, gSl, gLen, gAbs, gTwo, gI1, gApp, gExt, gTupOf, gListOf, gListM, ims, asQ, asT, asL, dat, tru, at0, at1, at2, id_eq, AV.und, keyA, Ab.isNon, wipeS, List.set_cons_zero, List.set_cons_succ, wgSub, gSt, retA, List.take_length, takeSet, takeSet2, List.foldl_cons, List.foldl_nil, List.zip_cons_cons, List.zip_nil_right, keepS_nil, keepS_cons, keepO_none, keepO_im, keepO_wl, List.length_set, List.length_append, List.set_set, true_and, any_pr, snocAt, snocTake, ims_map, ims_mapF, atD, Option.isSome_some, Option.isSome_none, if_true, if_false, Bool.false_eq_true, ite_true, ite_false]
      refine ⟨i, cnt, _, sv.map .str, rfl, ⟨c, Li _ _, hc⟩, by omega, fun _ => rfl, rfl, by rw [List.length_map]; exact hsv0, by rw [List.length_map]; omega, fun y hy c1 hc1 => ?_⟩
      obtain ⟨a, ha, rfl⟩ := List.mem_map.mp hy
      simp only [startA, List.map_cons, List.map_nil, List.length_cons, List.length_nil, List.replicate, List.cons_append, List.nil_append, Nat.reduceAdd, Nat.reduceSub, Nat.zero_add, Nat.sub_self, List.getElem?_cons_zero, List.getElem?_cons_succ, Option.map_some, wRet, wRetN, wSeq, wNext, wDrop, wIfS, wAsg, wgN, wgTup, wgCons, wgNil, wPar, wOr, wAnd, Ab.wNot, wIf, wOp, wUn, wCB, wCons, wNil, wTup, wLst, wLstM, wV, wC, wB, wCh, Ab.wTru, wNotT, wAndT, wOrT, wSl, wNo, wSome, wCall, wIsI, wIsI2, wStrip, wRev, gPop, wDNew, wDNewM, wSlW, gSlW, gAddM, gTimes, itemsA, wML, wYes, gIn, gInS, gIx, gEqv, gLt, gOrd, gAdd, gMinus, gInt, gNeg, gIs, gSl, gLen, gAbs, gTwo, gI1, gApp, gExt, gTupOf, gListOf, gListM, ims, asQ, asT, asL, dat, tru, at0, at1, at2, id_eq, AV.und, keyA, Ab.isNon, wipeS, List.set_cons_zero, List.set_cons_succ, wgSub, gSt, retA, List.take_length, takeSet, takeSet2, List.foldl_cons, List.foldl_nil, List.zip_cons_cons, List.zip_nil_right, keepS_nil, keepS_cons, keepO_none, keepO_im, keepO_wl, List.length_set, List.length_append, List.set_set, true_and, any_pr, snocAt, snocTake, ims_map, ims_mapF, atD, Option.isSome_some, Option.isSome_none, if_true, if_false, Bool.false_eq_true, ite_true, ite_false, Si]
      refine ⟨i, cnt + 1, far - 1, by rw [show ((far : Int) - 1) = ((far - 1 : Nat) : Int) by omega], ⟨c1, Li _ _, hc1⟩, by omega, by omega, by omega, fun z c2 hz hc2 => ?_⟩
      simp only [startA, List.map_cons, List.map_nil, List.length_cons, List.length_nil, List.replicate, List.cons_append, List.nil_append, Nat.reduceAdd, Nat.reduceSub, Nat.zero_add, Nat.sub_self, List.getElem?_cons_zero, List.getElem?_cons_succ, Option.map_some, wRet, wRetN, wSeq, wNext, wDrop, wIfS, wAsg, wgN, wgTup, wgCons, wgNil, wPar, wOr, wAnd, Ab.wNot, wIf, wOp, wUn, wCB, wCons, wNil, wTup, wLst, wLstM, wV, wC, wB, wCh, Ab.wTru, wNotT, wAndT, wOrT, wSl, wNo, wSome, wCall, wIsI, wIsI2, wStrip, wRev, gPop, wDNew, wDNewM, wSlW, gSlW, gAddM, gTimes, itemsA, wML, wYes, gIn, gInS, gIx, gEqv, gLt, gOrd, gAdd, gMinus, gInt, gNeg, gIs, gSl, gLen, gAbs, gTwo, gI1, gApp, gExt, gTupOf, gListOf, gListM, ims, asQ, asT, asL, dat, tru, at0, at1, at2, id_eq, AV.und, keyA, Ab.isNon, wipeS, List.set_cons_zero, List.set_cons_succ, wgSub, gSt, retA, List.take_length, takeSet, takeSet2, List.foldl_cons, List.foldl_nil, List.zip_cons_cons, List.zip_nil_right, keepS_nil, keepS_cons, keepO_none, keepO_im, keepO_wl, List.length_set, List.length_append, List.set_set, true_and, any_pr, snocAt, snocTake, ims_map, ims_mapF, atD, Option.isSome_some, Option.isSome_none, if_true, if_false, Bool.false_eq_true, ite_true, ite_false, Si]
      refine ⟨by decide, n4 _ _ (wSeq_of fun N5 n5 => ?_)⟩
      clear n4 N4
      have hnode : NdOk ss far (a, 1 + (z : Int)) := ⟨hsv a ha, by show (1 : Int) ≤ 1 + (z : Int); omega, by show 1 + (z : Int) < (far : Int); omega⟩
      have hasc : a ∈ ss := hsv a ha
      rw [show PyData.tuple [PyData.str a, PyData.int (1 + (z : Int))] = nodeE (a, 1 + (z : Int)) from rfl]
      generalize hp : ((a, 1 + (z : Int)) : Str × Int) = p at hnode
      clear hp
      simp only [startA, List.map_cons, List.map_nil, List.length_cons, List.length_nil, List.replicate, List.cons_append, List.nil_append, Nat.reduceAdd, Nat.reduceSub, Nat.zero_add, Nat.sub_self, List.getElem?_cons_zero, List.getElem?_cons_succ, Option.map_some, wRet, wRetN, wSeq, wNext, wDrop, wIfS, wAsg, wgN, wgTup, wgCons, wgNil, wPar, wOr, wAnd, Ab.wNot, wIf, wOp, wUn, wCB, wCons, wNil, wTup, wLst, wLstM, wV, wC, wB, wCh, Ab.wTru, wNotT, wAndT, wOrT, wSl, wNo, wSome, wCall, wIsI, wIsI2, wStrip, wRev, gPop, wDNew, wDNewM, wSlW, gSlW, gAddM, gTimes, itemsA, wML, wYes, gIn, gInS, gIx, gEqv, gLt, gOrd, gAdd, gMinus, gInt, gNeg, gIs, gSl, gLen, gAbs, gTwo, gI1, gApp, gExt, gTupOf, gListOf, gListM, ims, asQ, asT, asL, dat, tru, at0, at1, at2, id_eq, AV.und, keyA, Ab.isNon, wipeS, List.set_cons_zero, List.set_cons_succ, wgSub, gSt, retA, List.take_length, takeSet, takeSet2, List.foldl_cons, List.foldl_nil, List.zip_cons_cons, List.zip_nil_right, keepS_nil, keepS_cons, keepO_none, keepO_im, keepO_wl, List.length_set, List.length_append, List.set_set, true_and, any_pr, snocAt, snocTake, ims_map, ims_mapF, atD, Option.isSome_some, Option.isSome_none, if_true, if_false, Bool.false_eq_true, ite_true, ite_false, L1, wLc, wLcs, wiAny]
      refine ⟨by rw [List.length_map, sizeLine_eq]; omega, lc_map ns _ (fun q => some (.im (.bool (due ts p q)))) (L1 _ _ _) (by simp) (fun q hq Kt hk => ?_) (fun _ _ z hz => by cases hz; rfl) ?_⟩
      · simp only [startA, List.map_cons, List.map_nil, List.length_cons, List.length_nil, List.replicate, List.cons_append, List.nil_append, Nat.reduceAdd, Nat.reduceSub, Nat.zero_add, Nat.sub_self, List.getElem?_cons_zero, List.getElem?_cons_succ, Option.map_some, wRet, wRetN, wSeq, wNext, wDrop, wIfS, wAsg, wgN, wgTup, wgCons, wgNil, wPar, wOr, wAnd, Ab.wNot, wIf, wOp, wUn, wCB, wCons, wNil, wTup, wLst, wLstM, wV, wC, wB, wCh, Ab.wTru, wNotT, wAndT, wOrT, wSl, wNo, wSome, wCall, wIsI, wIsI2, wStrip, wRev, gPop, wDNew, wDNewM, wSlW, gSlW, gAddM, gTimes, itemsA, wML, wYes, gIn, gInS, gIx, gEqv, gLt, gOrd, gAdd, gMinus, gInt, gNeg, gIs, gSl, gLen, gAbs, gTwo, gI1, gApp, gExt, gTupOf, gListOf, gListM, ims, asQ, asT, asL, dat, tru, at0, at1, at2, id_eq, AV.und, keyA, Ab.isNon, wipeS, List.set_cons_zero, List.set_cons_succ, wgSub, gSt, retA, List.take_length, takeSet, takeSet2, List.foldl_cons, List.foldl_nil, List.zip_cons_cons, List.zip_nil_right, keepS_nil, keepS_cons, keepO_none, keepO_im, keepO_wl, List.length_set, List.length_append, List.set_set, true_and, any_pr, snocAt, snocTake, ims_map, ims_mapF, atD, Option.isSome_some, Option.isSome_none, if_true, if_false, Bool.false_eq_true, ite_true, ite_false, turnL]
        exact ⟨m.length, ss, ts, p, q, rfl, L0 _ _, nv, hnode.1, (hns q hq).1, hk⟩
      have e4 := bools_map' (fun q : Str × Int => due ts p q) ns
      rw [List.filterMap_eq_map', ims_mapF]
      simp only [gAll, asL, e4]
      generalize (ns.map fun q => due ts p q).any id = near
      refine n5 _ _ ?_
      clear n5 N5 e4
      have oks : ∀ n ∈ ns, okS n.1 := fun n hn => (nv.s _ (hns n hn).1).ok
      simp only [startA, List.map_cons, List.map_nil, List.length_cons, List.length_nil, List.replicate, List.cons_append, List.nil_append, Nat.reduceAdd, Nat.reduceSub, Nat.zero_add, Nat.sub_self, List.getElem?_cons_zero, List.getElem?_cons_succ, Option.map_some, wRet, wRetN, wSeq, wNext, wDrop, wIfS, wAsg, wgN, wgTup, wgCons, wgNil, wPar, wOr, wAnd, Ab.wNot, wIf, wOp, wUn, wCB, wCons, wNil, wTup, wLst, wLstM, wV, wC, wB, wCh, Ab.wTru, wNotT, wAndT, wOrT, wSl, wNo, wSome, wCall, wIsI, wIsI2, wStrip, wRev, gPop, wDNew, wDNewM, wSlW, gSlW, gAddM, gTimes, itemsA, wML, wYes, gIn, gInS, gIx, gEqv, gLt, gOrd, gAdd, gMinus, gInt, gNeg, gIs, gSl, gLen, gAbs, gTwo, gI1, gApp, gExt, gTupOf, gListOf, gListM, ims, asQ, asT, asL, dat, tru, at0, at1, at2, id_eq, AV.und, keyA, Ab.isNon, wipeS, List.set_cons_zero, List.set_cons_succ, wgSub, gSt, retA, List.take_length, takeSet, takeSet2, List.foldl_cons, List.foldl_nil, List.zip_cons_cons, List.zip_nil_right, keepS_nil, keepS_cons, keepO_none, keepO_im, keepO_wl, List.length_set, List.length_append, List.set_set, true_and, any_pr, snocAt, snocTake, ims_map, ims_mapF, atD, Option.isSome_some, Option.isSome_none, if_true, if_false, Bool.false_eq_true, ite_true, ite_false, L1, any_node]
      refine ⟨look_node (nv.s _ hnode.1).ok, lay_nodes oks, ?_⟩
      simp only [isList, L1, S1]
      have snoc : (ns.map fun p => AV.im (nodeE p)) ++ [AV.im (nodeE p)] = (ns ++ [p]).map fun p => AV.im (nodeE p) := by simp
      rw [snoc]
      have same : nx [some (.mu i), some (.im (netD ss ts)), some (.im (.int far)), some (.im (.bool b)), some (.mu m.length), some (.mu (m.length + 1)), some (.wl (sv.map .str)), some x, some (.im (nodeE p)), some (.im (.bool near)), o10, o11] (m.set i c2 ++ [.dk (besideC ss ts), .lst (ns.map fun p => .im (nodeE p))]) :=
        next _ _ ⟨cnt + 2, c2, ns, _, by omega, fun _ => ⟨h1, h2⟩, hc2, hns, by omega, List.take_of_length_le (by simp), by simp only [startA, List.map_cons, List.map_nil, List.length_cons, List.length_nil, List.replicate, List.cons_append, List.nil_append, Nat.reduceAdd, Nat.reduceSub, Nat.zero_add, Nat.sub_self, List.getElem?_cons_zero, List.getElem?_cons_succ, Option.map_some, wRet, wRetN, wSeq, wNext, wDrop, wIfS, wAsg, wgN, wgTup, wgCons, wgNil, wPar, wOr, wAnd, Ab.wNot, wIf, wOp, wUn, wCB, wCons, wNil, wTup, wLst, wLstM, wV, wC, wB, wCh, Ab.wTru, wNotT, wAndT, wOrT, wSl, wNo, wSome, wCall, wIsI, wIsI2, wStrip, wRev, gPop, wDNew, wDNewM, wSlW, gSlW, gAddM, gTimes, itemsA, wML, wYes, gIn, gInS, gIx, gEqv, gLt, gOrd, gAdd, gMinus, gInt, gNeg, gIs, gSl, gLen, gAbs, gTwo, gI1, gApp, gExt, gTupOf, gListOf, gListM, ims, asQ, asT, asL, dat, tru, at0, at1, at2, id_eq, AV.und, keyA, Ab.isNon, wipeS, List.set_cons_zero, List.set_cons_succ, wgSub, gSt, retA, List.take_length, takeSet, takeSet2, List.foldl_cons, List.foldl_nil, List.zip_cons_cons, List.zip_nil_right, keepS_nil, keepS_cons, keepO_none, keepO_im, keepO_wl, List.length_set, List.length_append, List.set_set, true_and, any_pr, snocAt, snocTake, ims_map, ims_mapF, atD, Option.isSome_some, Option.isSome_none, if_true, if_false, Bool.false_eq_true, ite_true, ite_false, keepO_mu (show i < m.length + 2 by omega), keepO_mu (show m.length < m.length + 2 by omega), keepO_mu (show m.length + 1 < m.length + 2 by omega)] <;> rfl, by simp [keepS]⟩
      have more : True ∧ (ns.map fun p => AV.im (nodeE p)).length < sizeLine ∧ nx [some (.mu i), some (.im (netD ss ts)), some (.im (.int far)), some (.im (.bool b)), some (.mu m.length), some (.mu (m.length + 1)), some (.wl (sv.map .str)), some x, some (.im (nodeE p)), some (.im (.bool near)), o10, o11] (m.set i c2 ++ [.dk (besideC ss ts), .lst ((ns ++ [p]).map fun p => .im (nodeE p))]) :=
        ⟨trivial, by rw [List.length_map, sizeLine_eq]; omega, next _ _ ⟨cnt + 2, c2, ns ++ [p], _, by omega, fun _ => ⟨h1, h2⟩, hc2, fun x hx => (List.mem_append.mp hx).elim (hns x) fun z => by rw [List.mem_singleton.mp z]; exact hnode, by rw [List.length_append]; simp only [List.length_cons, List.length_nil]; omega, List.take_of_length_le (by simp), by simp only [startA, List.map_cons, List.map_nil, List.length_cons, List.length_nil, List.replicate, List.cons_append, List.nil_append, Nat.reduceAdd, Nat.reduceSub, Nat.zero_add, Nat.sub_self, List.getElem?_cons_zero, List.getElem?_cons_succ, Option.map_some, wRet, wRetN, wSeq, wNext, wDrop, wIfS, wAsg, wgN, wgTup, wgCons, wgNil, wPar, wOr, wAnd, Ab.wNot, wIf, wOp, wUn, wCB, wCons, wNil, wTup, wLst, wLstM, wV, wC, wB, wCh, Ab.wTru, wNotT, wAndT, wOrT, wSl, wNo, wSome, wCall, wIsI, wIsI2, wStrip, wRev, gPop, wDNew, wDNewM, wSlW, gSlW, gAddM, gTimes, itemsA, wML, wYes, gIn, gInS, gIx, gEqv, gLt, gOrd, gAdd, gMinus, gInt, gNeg, gIs, gSl, gLen, gAbs, gTwo, gI1, gApp, gExt, gTupOf, gListOf, gListM, ims, asQ, asT, asL, dat, tru, at0, at1, at2, id_eq, AV.und, keyA, Ab.isNon, wipeS, List.set_cons_zero, List.set_cons_succ, wgSub, gSt, retA, List.take_length, takeSet, takeSet2, List.foldl_cons, List.foldl_nil, List.zip_cons_cons, List.zip_nil_right, keepS_nil, keepS_cons, keepO_none, keepO_im, keepO_wl, List.length_set, List.length_append, List.set_set, true_and, any_pr, snocAt, snocTake, ims_map, ims_mapF, atD, Option.isSome_some, Option.isSome_none, if_true, if_false, Bool.false_eq_true, ite_true, ite_false, keepO_mu (show i < m.length + 2 by omega), keepO_mu (show m.length < m.length + 2 by omega), keepO_mu (show m.length + 1 < m.length + 2 by omega)] <;> rfl, by simp [keepS]⟩⟩
      split
      · split
        · split
          · exact more
          · exact same
        · split
          · exact more
          · exact same
      · exact same
    · rintro ρ m' ⟨cnt, c, ns, r, hcnt, hk, hc, hns, hnl, rfl, rfl, hr⟩
      exact end_ cnt c ns r hc (by simpa using hcnt) hns (by simpa using hnl) hr
  clear end_ b1
  refine ⟨Nat.zero_le _, .inl ⟨_, rfl, ?_⟩⟩
  have lim0 : Lim 0 := ⟨by decide, by decide⟩
  by_cases h1 : sv = []
  · subst h1
    simp only [List.map_nil, List.isEmpty_nil, Bool.not_true, Bool.false_eq_true, if_false]
    exact ⟨lim0, loop 0 c0 n (fun h => absurd h (Nat.lt_irrefl 0)) (by omega) hc0 (by omega)⟩
  · have e1 : (sv.map PyData.str).isEmpty = false := by cases sv with | nil => exact absurd rfl h1 | cons _ _ => rfl
    simp only [e1, Bool.not_false, if_true]
    by_cases h2 : 1 < far
    · have h2' : (1 : Int) < (far : Int) := by omega
      simp only [h2', decide_true, if_true]
      refine ⟨i, n, 20, rfl, ⟨c0, Li _ _, hc0⟩, by omega, by decide, by decide, fun k c1 hk hc1 => ?_⟩
      simp only [Si, List.length_append, List.length_set, List.length_cons, List.length_nil]
      exact ⟨⟨by omega, by omega⟩, loop k c1 (n + 1) (fun _ => ⟨h1, h2⟩) (by omega) hc1 (by omega)⟩
    · have h2' : ¬ (1 : Int) < (far : Int) := by omega
      simp only [h2', decide_false, Bool.false_eq_true, if_false]
      exact ⟨lim0, loop 0 c0 n (fun h => absurd h (Nat.lt_irrefl 0)) (by omega) hc0 (by omega)⟩
end
end K14
end

section
set_option maxRecDepth 100000
set_option maxHeartbeats 8000000
namespace K14
open PySem PySem.Spec PyProof.Rows L2 Gd Ab
abbrev s_right : Stmt := topS 24
theorem sc_right : FnScope ["_law_deck_here", "_law_turn", "_law_net", "_law_far", "_law_good", "_law_some", "_law_again", "_law_thing", "_law_bent_here", "_law_kept", "_law_due_here", "_law_level"] ["_law_deck_here"] (defScope s_right) := ⟨rfl, rfl, rfl, by decide +kernel, rfl, by decide +kernel, by decide +kernel⟩
section
variable {P : Program} {w : World} {K : PySem.W.Frag} {mg : Str → Option Value} {base : Heap} {t0 : Tok}
def aRight : ASp := fun ds m P _ => ∃ i, ds = [.mu i] ∧ Dk m i 0 ∧ ∀ c, P (.im (.bool true)) (m.set i c)
def Fine (v : PyData) : Prop := good (10 ^ 40) v ∧ wt v ≤ 100000 ∧ v.depth ≤ 90 ∧ tupL v ≤ 40
def okI (x : AV) : Prop := (∃ v, x = .im v ∧ Fine v) ∨ ∃ zs : List PyData, x = .wl zs ∧ Fine (.list zs) ∧ (PyData.list zs).hasDict = false
theorem Od.fine {W D : Nat} {d : PyData} (o : Od (10 ^ 20 + 5) W D d) (h1 : W ≤ 100000) (h2 : D ≤ 90) (h3 : tupL d ≤ 40) : Fine d := ⟨o.g.mono (by decide), Nat.le_trans o.w h1, Nat.le_trans o.d h2, h3⟩
theorem odN {ss : List Str} {ts : List (Str × Str)} (nv : NetV ss ts) {far : Nat} (hf : far ≤ 12) {ns : List (Str × Int)} (h : ∀ x ∈ ns, NdOk ss far x) (hl : ns.length ≤ 40) : Od (10 ^ 20) 2700 4 (.tuple (ns.map nodeE)) := by
  have fact : ∀ x ∈ ns.map nodeE, ∃ s p, x = .tuple [.str s, .int p] ∧ Nm s ∧ p.natAbs ≤ 12 := fun x hx => by
    obtain ⟨n, hn, rfl⟩ := List.mem_map.mp hx
    obtain ⟨h1, h2, h3⟩ := h n hn
    exact ⟨n.1, n.2, rfl, nv.s _ h1, by omega⟩
  have hw := wts_le (b := 64) (xs := ns.map nodeE) fun x hx => by
    obtain ⟨s, p, rfl, hs, hp⟩ := fact x hx
    have := hs.len
    simp only [wt, wts]; omega
  have hd := depths_le (b := 3) (xs := ns.map nodeE) fun x hx => by
    obtain ⟨s, p, rfl, hs, hp⟩ := fact x hx
    simp [PyData.depth, PyData.depthAll]
  rw [List.length_map] at hw
  refine ⟨goods_iff.mpr fun x hx => ?_, by simp only [wt]; omega, by simp only [PyData.depth]; omega⟩
  obtain ⟨s, p, rfl, hs, hp⟩ := fact x hx
  exact ⟨hs.plain, Nat.le_trans hp (by decide), trivial⟩
theorem fineN {ss : List Str} {ts : List (Str × Str)} (nv : NetV ss ts) {far : Nat} (hf : far ≤ 12) {ns : List (Str × Int)} (h : ∀ x ∈ ns, NdOk ss far x) (hl : ns.length ≤ 40) : Fine (.tuple (ns.map nodeE)) := by
  have o := odN nv hf h hl
  exact ⟨o.g.mono (by decide), Nat.le_trans o.w (by decide), Nat.le_trans o.d (by decide), by show (ns.map nodeE).length ≤ 40; rw [List.length_map]; exact hl⟩
theorem noDict_nodes : ∀ ns : List (Str × Int), (PyData.list (ns.map nodeE)).hasDict = false := fun ns => by
  induction ns with
  | nil => rfl
  | cons p r ih =>
    simp only [PyData.hasDict] at ih ⊢
    rw [List.map_cons]
    simp only [PyData.hasDictAll, PyData.hasDict, ih, Bool.or_self, Bool.or_false]
theorem fineNL {ss : List Str} {ts : List (Str × Str)} (nv : NetV ss ts) {far : Nat} (hf : far ≤ 12) {ns : List (Str × Int)} (h : ∀ x ∈ ns, NdOk ss far x) (hl : ns.length ≤ 40) : Fine (.list (ns.map nodeE)) := by
  have o := odN nv hf h hl
  exact ⟨(show good (10 ^ 40) (.tuple (ns.map nodeE)) from o.g.mono (by decide)), Nat.le_trans o.w (by decide), Nat.le_trans o.d (by decide), Nat.zero_le _⟩
theorem fine1 {s : Str} (hs : Nm s) {v : PyData} (hv : (∃ i : Int, v = .int i ∧ i.natAbs ≤ 20) ∨ ∃ b, v = .bool b) : Fine (.tuple [.tuple [.str s, v]]) := by
  have := hs.len
  rcases hv with ⟨i, rfl, hi⟩ | ⟨b, rfl⟩
  · exact ⟨⟨⟨hs.plain, Nat.le_trans hi (by decide), trivial⟩, trivial⟩, by simp only [wt, wts]; omega, by simp [PyData.depth, PyData.depthAll], by show 1 ≤ 40; decide⟩
  · exact ⟨⟨⟨hs.plain, trivial, trivial⟩, trivial⟩, by simp only [wt, wts]; omega, by simp [PyData.depth, PyData.depthAll], by show 1 ≤ 40; decide⟩
theorem cut_map {α β : Type} (f : α → β) (xs : List α) (lo hi : Option Int) : cutD (xs.map f) lo hi = (cutD xs lo hi).map f := by
  unfold Ab.cutD; rw [List.length_map, List.map_take, List.map_drop]
theorem cut_mem {α : Type} {xs : List α} {lo hi : Option Int} {x : α} (h : x ∈ cutD xs lo hi) : x ∈ xs := List.mem_of_mem_drop (List.mem_of_mem_take h)
theorem cut_len {α : Type} {xs : List α} {lo hi : Option Int} : (cutD xs lo hi).length ≤ xs.length := by
  unfold Ab.cutD; rw [List.length_take, List.length_drop]; omega
theorem fine_net {ss : List Str} {ts : List (Str × Str)} (h : NetV ss ts) : Fine (netD ss ts) := by
  have ht : ∀ t ∈ ts, Nm t.1 ∧ Nm t.2 := fun t ht => ⟨h.s _ (h.t t ht).1, h.s _ (h.t t ht).2.1⟩
  have h1 := wt_strs h.s
  have h2 := wts_le (b := 50) (xs := ts.map prD) fun x hx => by
    obtain ⟨t, ht', rfl⟩ := List.mem_map.mp hx
    have a := (ht t ht').1.len
    have b := (ht t ht').2.len
    simp only [wt, wts]; omega
  have l1 := h.ls
  have l2 := h.lt
  rw [List.length_map] at h2
  refine ⟨⟨good_strs h.s, ?_, trivial⟩, ?_, ?_, by show 2 ≤ 40; decide⟩
  · exact goods_iff.mpr fun x hx => by
      obtain ⟨t, ht', rfl⟩ := List.mem_map.mp hx
      exact ⟨(ht t ht').1.plain, (ht t ht').2.plain, trivial⟩
  · simp only [wt, wts]; omega
  · have d1 : PyData.depthAll (ss.map .str) ≤ 1 := depths_le fun x hx => by
      obtain ⟨s, _, rfl⟩ := List.mem_map.mp hx
      simp [PyData.depth]
    have d2 : PyData.depthAll (ts.map prD) ≤ 3 := depths_le fun x hx => by
      obtain ⟨t, _, rfl⟩ := List.mem_map.mp hx
      simp [PyData.depth, PyData.depthAll]
    simp only [PyData.depth, PyData.depthAll]; omega
theorem fine_ss {s0 : Str} {r : List Str} {ts : List (Str × Str)} (nv : NetV (s0 :: r) ts) {y : Nat} (h : (s0 :: r).length = 1 + y) (hy : y < 12) : Fine (.tuple (.str s0 :: r.map .str)) := by
  have h1 := wt_strs nv.s
  have d1 : PyData.depthAll ((s0 :: r).map .str) ≤ 1 := depths_le fun x hx => by
    obtain ⟨s, _, rfl⟩ := List.mem_map.mp hx
    simp [PyData.depth]
  have e : (PyData.str s0 :: r.map .str) = (s0 :: r).map .str := rfl
  rw [e]
  rw [h] at h1
  refine ⟨good_strs nv.s, by simp only [wt]; omega, by simp only [PyData.depth]; omega, ?_⟩
  show ((s0 :: r).map PyData.str).length ≤ 40
  rw [List.length_map, h]; omega
theorem len6 : ∀ {r : Slots}, r.length = 6 → ∃ a b c d e f, r = [a, b, c, d, e, f]
  | [a, b, c, d, e, f], _ => ⟨a, b, c, d, e, f, rfl⟩
theorem len8 : ∀ {r : Slots}, r.length = 8 → ∃ a b c d e f g h, r = [a, b, c, d, e, f, g, h]
  | [a, b, c, d, e, f, g, h], _ => ⟨a, b, c, d, e, f, g, h, rfl⟩
theorem len11 : ∀ {r : Slots}, r.length = 11 → ∃ a b c d e f g h i j k, r = [a, b, c, d, e, f, g, h, i, j, k]
  | [a, b, c, d, e, f, g, h, i, j, k], _ => ⟨a, b, c, d, e, f, g, h, i, j, k, rfl⟩
theorem ok_right (hB : Bs mg t0) (D : Defd K mg "_law_right" s_right) (C_law_draw : Callee P w K mg base CX0 1 "_law_draw" ["_law_deck_here", "_law_many"] (lift aDraw)) (C_law_any : Callee P w K mg base CX0 2 "_law_any" ["_law_deck_here", "_law_items"] (lift aAny)) (C_law_network : Callee P w K mg base CX0 4 "_law_network" ["_law_deck_here", "_law_many", "_law_is_sided"] (lift aNetwork))
    (C_law_drawn : Callee P w K mg base CX0 3 "_law_drawn" ["_law_deck_here", "_law_net", "_law_far", "_law_is_kept"] (lift aDrawn)) (C_law_bent : Callee P w K mg base CX0 6 "_law_bent" ["_law_deck_here", "_law_thing", "_law_deep"] (lift (aBentL 2))) (C_law_due : Callee P w K mg base CX0 2 "_law_due" ["_law_net", "_law_far", "_law_thing"] (lift aDue))
    (Cis_apart : Callee P w K mg base CX0 4 "is_apart" ["network", "distance", "value"] (lift aApart)) : Callee P w K mg base CX0 7 "_law_right" ["_law_deck_here"] (lift aRight) := by
  refine okA D sc_right (fun _ _ _ _ _ _ us hl => match us, hl with | [_], _ => rfl) (fun ds m Q EA ⟨_, e, _⟩ => by rw [e]; rfl) fun f cdv A outer s H E B hgu hr => ?_
  refine ⟨_, _, (ss_cons (s_for PassesOwn.never rfl (ai_r1 (by rfl) hB.range (al_cons ae_int al_nil)) (g_name (pg_name (i := 1) sc_right.nd rfl (.inl rfl))) (ss_cons (s_asg (ae_tup (al_cons (ae_call C_law_network hgu (hr.mono (by omega)) (by rfl) pass0 (al_cons (ae_v (pv 0)) (al_cons (ae_op oa_add ae_int (ae_call C_law_draw hgu (hr.mono (by omega)) (by rfl) pass0 (al_cons (ae_v (pv 0)) (al_cons ae_int al_nil)))) (al_cons (ae_cmp (oa_eq hr) (ae_call C_law_draw hgu (hr.mono (by omega)) (by rfl) pass0 (al_cons (ae_v (pv 0)) (al_cons ae_int al_nil))) ae_int (nomark _)) al_nil)))) (al_cons (ae_call C_law_draw hgu (hr.mono (by omega)) (by rfl) pass0 (al_cons (ae_v (pv 0)) (al_cons ae_int al_nil))) al_nil))) (g_tup (K := K) rfl rfl (gs_cons (g_name (pg_name (i := 2) sc_right.nd rfl (.inr rfl))) (gs_cons (g_name (pg_name (i := 3) sc_right.nd rfl (.inl rfl))) gs_nil))))
        (ss_cons (s_set (i := 4) sc_right.nd rfl (.inl rfl) (ae_lst (al_cons (ae_call C_law_drawn hgu (hr.mono (by omega)) (by rfl) pass0 (al_cons (ae_v (pv 0)) (al_cons (ae_v (pv 2)) (al_cons (ae_v (pv 3)) (al_cons ae_bl al_nil))))) (al_cons (ae_call C_law_drawn hgu (hr.mono (by omega)) (by rfl) pass0 (al_cons (ae_v (pv 0)) (al_cons (ae_v (pv 2)) (al_cons (ae_v (pv 3)) (al_cons ae_bl al_nil))))) (al_cons (ae_call C_law_drawn hgu (hr.mono (by omega)) (by rfl) pass0 (al_cons (ae_v (pv 0)) (al_cons (ae_v (pv 2)) (al_cons (ae_v (pv 3)) (al_cons ae_bl al_nil))))) al_nil)))))
        (ss_cons (s_set (i := 5) sc_right.nd rfl (.inl rfl) (ae_op oa_addM (ae_v (pv 4)) (ae_lstM (al_cons (ae_rev (ae_ix hr (ae_v (pv 4)) ae_int (fun _ _ => rfl))) (al_cons (ae_op oa_add (ae_ix hr (ae_v (pv 4)) ae_int (fun _ _ => rfl)) (ae_slice (ae_ix hr (ae_v (pv 4)) ae_int (fun _ _ => rfl)) (ao_some (ae_un ua_neg ae_int)) ao_none)) (al_cons (ae_callTy ca_list (by rfl) hB.list (by decide +kernel) (al_cons (ae_ix hr (ae_v (pv 4)) ae_int (fun _ _ => rfl)) al_nil)) (al_cons (ae_tup (al_cons (ae_tup (al_cons (ae_ix hr (ae_ix hr (ae_v (pv 2)) ae_int (fun _ _ => rfl)) ae_int (fun _ _ => rfl)) (al_cons (ae_v (pv 3)) al_nil))) al_nil)) (al_cons ae_non al_nil))))))))
        (ss_cons (s_expr (ae_ml (K := K) PySem.F.plainAttrs_list PySem.F.slot_list_append PySem.F.type_list_append ma_append (ae_v (pv 5)) (al_cons (ae_tup (al_cons (ae_tup (al_cons (ae_ix hr (ae_ix hr (ae_v (pv 2)) ae_int (fun _ _ => rfl)) ae_int (fun _ _ => rfl)) (al_cons ae_int al_nil))) al_nil)) al_nil)))
        (ss_cons (s_set (i := 5) sc_right.nd rfl (.inl rfl) (ae_op oa_addM (ae_op oa_addM (ae_v (pv 5)) (ae_lc (own := [("_law_level", 11)]) (g := (gName 11)) rfl sc_right.nd (ai_any (K := K) rfl (ae_tup (al_cons ae_int (al_cons (ae_op oa_sub (ae_v (pv 3)) ae_int) (al_cons ae_bl al_nil))))) (blkOk_by (N := ["_law_deck_here", "_law_turn", "_law_net", "_law_far", "_law_good", "_law_some", "_law_again", "_law_thing", "_law_bent_here", "_law_kept", "_law_due_here", "_law_level"]) (sc := defScope s_right) (by decide +kernel)) (fun _ _ _ _ _ => (g_name (pg_name (i := 11) sc_right.nd rfl (.inl rfl)))) (own_name (by decide)) (mono_name _) (fun _ _ _ _ _ => ts_nil) (fun _ _ _ _ _ => (ae_tup (al_cons (ae_tup (al_cons (ae_ix hr (ae_ix hr (ae_v (pv 2)) ae_int (fun _ _ => rfl)) ae_int (fun _ _ => rfl)) (al_cons (ae_v (pv 11)) al_nil))) al_nil))))) (ae_lstM (al_cons ae_bl (al_cons ae_int (al_cons ae_str (al_cons (ae_tup al_nil) (al_cons (ae_lst al_nil) (al_cons ae_dnew (al_cons (ae_v (pv 2)) (al_cons (ae_ix hr (ae_v (pv 2)) ae_int (fun _ _ => rfl)) al_nil)))))))))))
        (ss_cons (s_for PassesOwn.never rfl (ai_r1 (by rfl) hB.range (al_cons ae_int al_nil)) (g_name (pg_name (i := 6) sc_right.nd rfl (.inl rfl))) (ss_cons (s_set (i := 8) sc_right.nd rfl (.inl rfl) (ae_call C_law_bent hgu (hr.mono (by omega)) (by rfl) pass0 (al_cons (ae_v (pv 0)) (al_cons (ae_call C_law_any hgu (hr.mono (by omega)) (by rfl) pass0 (al_cons (ae_v (pv 0)) (al_cons (ae_v (pv 4)) al_nil))) (al_cons ae_int al_nil)))))
        (ss_one (s_expr (ae_ml (K := K) PySem.F.plainAttrs_list PySem.F.slot_list_extend PySem.F.type_list_extend ma_extend (ae_v (pv 5)) (al_cons (ae_lst (al_cons (ae_v (pv 8)) (al_cons (ae_call C_law_bent hgu (hr.mono (by omega)) (by rfl) pass0 (al_cons (ae_v (pv 0)) (al_cons (ae_v (pv 8)) (al_cons ae_int al_nil)))) al_nil))) al_nil))))))
        (ss_one (s_for PassesOwn.never rfl (ai_any (K := K) rfl (ae_v (pv 5))) (g_name (pg_name (i := 7) sc_right.nd rfl (.inl rfl))) (ss_cons (s_par2 (fun e => ps_par (i := 9) (j := 10) (by rfl) sc_right.nd rfl rfl (by decide) rfl rfl e (by rfl)) (al_cons (ae_callB (ca_repr hgu hr) (by rfl) hB.repr (by decide +kernel) (al_cons (ae_v (pv 7)) al_nil)) (al_cons (ae_call C_law_due hgu (hr.mono (by omega)) (by rfl) pass0 (al_cons (ae_v (pv 2)) (al_cons (ae_v (pv 3)) (al_cons (ae_v (pv 7)) al_nil)))) al_nil)))
        (ss_one (s_if (AW.at (aw_or (at_cmp (oa_ne hr) (ae_callB (ca_repr hgu hr) (by rfl) hB.repr (by decide +kernel) (al_cons (ae_call Cis_apart hgu (hr.mono (by omega)) (by rfl) pass0 (al_cons (ae_v (pv 2)) (al_cons (ae_v (pv 3)) (al_cons (ae_v (pv 7)) al_nil)))) al_nil)) (ae_callB (ca_repr hgu hr) (by rfl) hB.repr (by decide +kernel) (al_cons (ae_v (pv 10)) al_nil)) (nomark _)) (aw_or1 (at_cmp (oa_ne hr) (ae_callB (ca_repr hgu hr) (by rfl) hB.repr (by decide +kernel) (al_cons (ae_v (pv 7)) al_nil)) (ae_v (pv 9)) (nomark _))))) (ss_one (s_ret ae_bl)) ss_nil))))))))))))
        (ss_one (s_ret ae_bl))), ?_⟩
  rintro _ m Q ⟨i, rfl, ⟨c0, hm, hc0⟩, q⟩
  have hi : i < m.length := (List.getElem?_eq_some_iff.mp hm).1
  refine wSeq_of fun N1 n1 => ?_
  refine wFor_of fun B1 b1 => ?_
  simp only [startA, List.map_cons, List.map_nil, List.length_cons, List.length_nil, List.replicate, List.cons_append, List.nil_append, Nat.reduceAdd, Nat.reduceSub, Nat.zero_add, Nat.sub_self, List.getElem?_cons_zero, List.getElem?_cons_succ, Option.map_some, wRet, wRetN, wSeq, wNext, wDrop, wIfS, wAsg, wgN, wgTup, wgCons, wgNil, wPar, wOr, wAnd, Ab.wNot, wIf, wOp, wUn, wCB, wCons, wNil, wTup, wLst, wLstM, wV, wC, wB, wCh, Ab.wTru, wNotT, wAndT, wOrT, wSl, wNo, wSome, wCall, wIsI, wIsI2, wStrip, wRev, gPop, wDNew, wDNewM, wSlW, gSlW, gAddM, gTimes, itemsA, wML, wYes, gIn, gInS, gIx, gEqv, gLt, gOrd, gAdd, gMinus, gInt, gNeg, gIs, gSl, gLen, gAbs, gTwo, gI1, gApp, gExt, gTupOf, gListOf, gListM, ims, asQ, asT, asL, dat, tru, at0, at1, at2, id_eq, AV.und, keyA, Ab.isNon, wipeS, List.set_cons_zero, List.set_cons_succ, wgSub, gSt, retA, List.take_length, takeSet, takeSet2, List.foldl_cons, List.foldl_nil, List.zip_cons_cons, List.zip_nil_right, keepS_nil, keepS_cons, keepO_none, keepO_im, keepO_wl, List.length_set, List.length_append, List.set_set, true_and, any_pr, snocAt, snocTake, ims_map, ims_mapF, atD, Option.isSome_some, Option.isSome_none, if_true, if_false, Bool.false_eq_true, ite_true, ite_false, wiR1]
  refine ⟨⟨by decide, by decide⟩, ?_⟩
  refine for_inv (fun xs ρ m' => ∃ cnt c r, cnt + 2000 * xs.length ≤ 8000 ∧ m' = m.set i c ∧ dkC cnt c ∧ ρ = some (.mu i) :: r ∧ r.length = 11) (fun _ _ _ _ => trivial) ?_ ?_ ⟨0, c0, _, by decide, (setSame hm).symm, hc0, rfl, rfl⟩
  rotate_left
  · rintro ρ m' ⟨cnt, c, r, hcnt, rfl, hc, rfl, hr11⟩
    refine n1 _ _ ?_
    simp only [startA, List.map_cons, List.map_nil, List.length_cons, List.length_nil, List.replicate, List.cons_append, List.nil_append, Nat.reduceAdd, Nat.reduceSub, Nat.zero_add, Nat.sub_self, List.getElem?_cons_zero, List.getElem?_cons_succ, Option.map_some, wRet, wRetN, wSeq, wNext, wDrop, wIfS, wAsg, wgN, wgTup, wgCons, wgNil, wPar, wOr, wAnd, Ab.wNot, wIf, wOp, wUn, wCB, wCons, wNil, wTup, wLst, wLstM, wV, wC, wB, wCh, Ab.wTru, wNotT, wAndT, wOrT, wSl, wNo, wSome, wCall, wIsI, wIsI2, wStrip, wRev, gPop, wDNew, wDNewM, wSlW, gSlW, gAddM, gTimes, itemsA, wML, wYes, gIn, gInS, gIx, gEqv, gLt, gOrd, gAdd, gMinus, gInt, gNeg, gIs, gSl, gLen, gAbs, gTwo, gI1, gApp, gExt, gTupOf, gListOf, gListM, ims, asQ, asT, asL, dat, tru, at0, at1, at2, id_eq, AV.und, keyA, Ab.isNon, wipeS, List.set_cons_zero, List.set_cons_succ, wgSub, gSt, retA, List.take_length, takeSet, takeSet2, List.foldl_cons, List.foldl_nil, List.zip_cons_cons, List.zip_nil_right, keepS_nil, keepS_cons, keepO_none, keepO_im, keepO_wl, List.length_set, List.length_append, List.set_set, true_and, any_pr, snocAt, snocTake, ims_map, ims_mapF, atD, Option.isSome_some, Option.isSome_none, if_true, if_false, Bool.false_eq_true, ite_true, ite_false]
    exact q c
  rintro x xs ρ m' nx1 ⟨cnt, c, r, hcnt, rfl, hc, rfl, hr11⟩ next1
  clear hm hc0
  obtain ⟨o1, o2, o3, o4, o5, o6, o7, o8, o9, o10, o11, rfl⟩ := len11 hr11
  rw [List.length_cons] at hcnt
  refine b1 _ _ _ _ ?_
  clear b1
  simp only [wgN, wgTup, wgCons, wgNil, List.map_cons, List.map_nil, List.set_cons_zero, List.set_cons_succ, List.length_cons, List.length_nil]
  refine wSeq_of fun N2 n2 => ?_
  simp only [startA, List.map_cons, List.map_nil, List.length_cons, List.length_nil, List.replicate, List.cons_append, List.nil_append, Nat.reduceAdd, Nat.reduceSub, Nat.zero_add, Nat.sub_self, List.getElem?_cons_zero, List.getElem?_cons_succ, Option.map_some, wRet, wRetN, wSeq, wNext, wDrop, wIfS, wAsg, wgN, wgTup, wgCons, wgNil, wPar, wOr, wAnd, Ab.wNot, wIf, wOp, wUn, wCB, wCons, wNil, wTup, wLst, wLstM, wV, wC, wB, wCh, Ab.wTru, wNotT, wAndT, wOrT, wSl, wNo, wSome, wCall, wIsI, wIsI2, wStrip, wRev, gPop, wDNew, wDNewM, wSlW, gSlW, gAddM, gTimes, itemsA, wML, wYes, gIn, gInS, gIx, gEqv, gLt, gOrd, gAdd, gMinus, gInt, gNeg, gIs, gSl, gLen, gAbs, gTwo, gI1, gApp, gExt, gTupOf, gListOf, gListM, ims, asQ, asT, asL, dat, tru, at0, at1, at2, id_eq, AV.und, keyA, Ab.isNon, wipeS, List.set_cons_zero, List.set_cons_succ, wgSub, gSt, retA, List.take_length, takeSet, takeSet2, List.foldl_cons, List.foldl_nil, List.zip_cons_cons, List.zip_nil_right, keepS_nil, keepS_cons, keepO_none, keepO_im, keepO_wl, List.length_set, List.length_append, List.set_set, true_and, any_pr, snocAt, snocTake, ims_map, ims_mapF, atD, Option.isSome_some, Option.isSome_none, if_true, if_false, Bool.false_eq_true, ite_true, ite_false]
  refine ⟨i, cnt, 12, rfl, ⟨c, getSet hi, hc⟩, by omega, by decide, by decide, fun y c1 hy hc1 => ?_⟩
  simp only [startA, List.map_cons, List.map_nil, List.length_cons, List.length_nil, List.replicate, List.cons_append, List.nil_append, Nat.reduceAdd, Nat.reduceSub, Nat.zero_add, Nat.sub_self, List.getElem?_cons_zero, List.getElem?_cons_succ, Option.map_some, wRet, wRetN, wSeq, wNext, wDrop, wIfS, wAsg, wgN, wgTup, wgCons, wgNil, wPar, wOr, wAnd, Ab.wNot, wIf, wOp, wUn, wCB, wCons, wNil, wTup, wLst, wLstM, wV, wC, wB, wCh, Ab.wTru, wNotT, wAndT, wOrT, wSl, wNo, wSome, wCall, wIsI, wIsI2, wStrip, wRev, gPop, wDNew, wDNewM, wSlW, gSlW, gAddM, gTimes, itemsA, wML, wYes, gIn, gInS, gIx, gEqv, gLt, gOrd, gAdd, gMinus, gInt, gNeg, gIs, gSl, gLen, gAbs, gTwo, gI1, gApp, gExt, gTupOf, gListOf, gListM, ims, asQ, asT, asL, dat, tru, at0, at1, at2, id_eq, AV.und, keyA, Ab.isNon, wipeS, List.set_cons_zero, List.set_cons_succ, wgSub, gSt, retA, List.take_length, takeSet, takeSet2, List.foldl_cons, List.foldl_nil, List.zip_cons_cons, List.zip_nil_right, keepS_nil, keepS_cons, keepO_none, keepO_im, keepO_wl, List.length_set, List.length_append, List.set_set, true_and, any_pr, snocAt, snocTake, ims_map, ims_mapF, atD, Option.isSome_some, Option.isSome_none, if_true, if_false, Bool.false_eq_true, ite_true, ite_false]
  refine ⟨i, cnt + 1, 2, rfl, ⟨c1, getSet hi, hc1⟩, by omega, by decide, by decide, fun y2 c2 hy2 hc2 => ?_⟩
  simp only [startA, List.map_cons, List.map_nil, List.length_cons, List.length_nil, List.replicate, List.cons_append, List.nil_append, Nat.reduceAdd, Nat.reduceSub, Nat.zero_add, Nat.sub_self, List.getElem?_cons_zero, List.getElem?_cons_succ, Option.map_some, wRet, wRetN, wSeq, wNext, wDrop, wIfS, wAsg, wgN, wgTup, wgCons, wgNil, wPar, wOr, wAnd, Ab.wNot, wIf, wOp, wUn, wCB, wCons, wNil, wTup, wLst, wLstM, wV, wC, wB, wCh, Ab.wTru, wNotT, wAndT, wOrT, wSl, wNo, wSome, wCall, wIsI, wIsI2, wStrip, wRev, gPop, wDNew, wDNewM, wSlW, gSlW, gAddM, gTimes, itemsA, wML, wYes, gIn, gInS, gIx, gEqv, gLt, gOrd, gAdd, gMinus, gInt, gNeg, gIs, gSl, gLen, gAbs, gTwo, gI1, gApp, gExt, gTupOf, gListOf, gListM, ims, asQ, asT, asL, dat, tru, at0, at1, at2, id_eq, AV.und, keyA, Ab.isNon, wipeS, List.set_cons_zero, List.set_cons_succ, wgSub, gSt, retA, List.take_length, takeSet, takeSet2, List.foldl_cons, List.foldl_nil, List.zip_cons_cons, List.zip_nil_right, keepS_nil, keepS_cons, keepO_none, keepO_im, keepO_wl, List.length_set, List.length_append, List.set_set, true_and, any_pr, snocAt, snocTake, ims_map, ims_mapF, atD, Option.isSome_some, Option.isSome_none, if_true, if_false, Bool.false_eq_true, ite_true, ite_false]
  refine ⟨i, cnt + 2, 1 + y, _, by rw [show (1 + (y : Int)) = ((1 + y : Nat) : Int) by omega], ⟨c2, getSet hi, hc2⟩, by omega, by omega, fun ss ts c3 nv hls hc3 => ?_⟩
  simp only [startA, List.map_cons, List.map_nil, List.length_cons, List.length_nil, List.replicate, List.cons_append, List.nil_append, Nat.reduceAdd, Nat.reduceSub, Nat.zero_add, Nat.sub_self, List.getElem?_cons_zero, List.getElem?_cons_succ, Option.map_some, wRet, wRetN, wSeq, wNext, wDrop, wIfS, wAsg, wgN, wgTup, wgCons, wgNil, wPar, wOr, wAnd, Ab.wNot, wIf, wOp, wUn, wCB, wCons, wNil, wTup, wLst, wLstM, wV, wC, wB, wCh, Ab.wTru, wNotT, wAndT, wOrT, wSl, wNo, wSome, wCall, wIsI, wIsI2, wStrip, wRev, gPop, wDNew, wDNewM, wSlW, gSlW, gAddM, gTimes, itemsA, wML, wYes, gIn, gInS, gIx, gEqv, gLt, gOrd, gAdd, gMinus, gInt, gNeg, gIs, gSl, gLen, gAbs, gTwo, gI1, gApp, gExt, gTupOf, gListOf, gListM, ims, asQ, asT, asL, dat, tru, at0, at1, at2, id_eq, AV.und, keyA, Ab.isNon, wipeS, List.set_cons_zero, List.set_cons_succ, wgSub, gSt, retA, List.take_length, takeSet, takeSet2, List.foldl_cons, List.foldl_nil, List.zip_cons_cons, List.zip_nil_right, keepS_nil, keepS_cons, keepO_none, keepO_im, keepO_wl, List.length_set, List.length_append, List.set_set, true_and, any_pr, snocAt, snocTake, ims_map, ims_mapF, atD, Option.isSome_some, Option.isSome_none, if_true, if_false, Bool.false_eq_true, ite_true, ite_false]
  refine ⟨i, cnt + 1002, 12, rfl, ⟨c3, getSet hi, hc3⟩, by omega, by decide, by decide, fun far c4 hf hc4 => ?_⟩
  simp only [startA, List.map_cons, List.map_nil, List.length_cons, List.length_nil, List.replicate, List.cons_append, List.nil_append, Nat.reduceAdd, Nat.reduceSub, Nat.zero_add, Nat.sub_self, List.getElem?_cons_zero, List.getElem?_cons_succ, Option.map_some, wRet, wRetN, wSeq, wNext, wDrop, wIfS, wAsg, wgN, wgTup, wgCons, wgNil, wPar, wOr, wAnd, Ab.wNot, wIf, wOp, wUn, wCB, wCons, wNil, wTup, wLst, wLstM, wV, wC, wB, wCh, Ab.wTru, wNotT, wAndT, wOrT, wSl, wNo, wSome, wCall, wIsI, wIsI2, wStrip, wRev, gPop, wDNew, wDNewM, wSlW, gSlW, gAddM, gTimes, itemsA, wML, wYes, gIn, gInS, gIx, gEqv, gLt, gOrd, gAdd, gMinus, gInt, gNeg, gIs, gSl, gLen, gAbs, gTwo, gI1, gApp, gExt, gTupOf, gListOf, gListM, ims, asQ, asT, asL, dat, tru, at0, at1, at2, id_eq, AV.und, keyA, Ab.isNon, wipeS, List.set_cons_zero, List.set_cons_succ, wgSub, gSt, retA, List.take_length, takeSet, takeSet2, List.foldl_cons, List.foldl_nil, List.zip_cons_cons, List.zip_nil_right, keepS_nil, keepS_cons, keepO_none, keepO_im, keepO_wl, List.length_set, List.length_append, List.set_set, true_and, any_pr, snocAt, snocTake, ims_map, ims_mapF, atD, Option.isSome_some, Option.isSome_none, if_true, if_false, Bool.false_eq_true, ite_true, ite_false]
  refine ⟨by decide, rfl, n2 _ _ ?_⟩
  clear n2 N2
  refine wSeq_of fun N3 n3 => ?_
  simp only [startA, List.map_cons, List.map_nil, List.length_cons, List.length_nil, List.replicate, List.cons_append, List.nil_append, Nat.reduceAdd, Nat.reduceSub, Nat.zero_add, Nat.sub_self, List.getElem?_cons_zero, List.getElem?_cons_succ, Option.map_some, wRet, wRetN, wSeq, wNext, wDrop, wIfS, wAsg, wgN, wgTup, wgCons, wgNil, wPar, wOr, wAnd, Ab.wNot, wIf, wOp, wUn, wCB, wCons, wNil, wTup, wLst, wLstM, wV, wC, wB, wCh, Ab.wTru, wNotT, wAndT, wOrT, wSl, wNo, wSome, wCall, wIsI, wIsI2, wStrip, wRev, gPop, wDNew, wDNewM, wSlW, gSlW, gAddM, gTimes, itemsA, wML, wYes, gIn, gInS, gIx, gEqv, gLt, gOrd, gAdd, gMinus, gInt, gNeg, gIs, gSl, gLen, gAbs, gTwo, gI1, gApp, gExt, gTupOf, gListOf, gListM, ims, asQ, asT, asL, dat, tru, at0, at1, at2, id_eq, AV.und, keyA, Ab.isNon, wipeS, List.set_cons_zero, List.set_cons_succ, wgSub, gSt, retA, List.take_length, takeSet, takeSet2, List.foldl_cons, List.foldl_nil, List.zip_cons_cons, List.zip_nil_right, keepS_nil, keepS_cons, keepO_none, keepO_im, keepO_wl, List.length_set, List.length_append, List.set_set, true_and, any_pr, snocAt, snocTake, ims_map, ims_mapF, atD, Option.isSome_some, Option.isSome_none, if_true, if_false, Bool.false_eq_true, ite_true, ite_false]
  refine ⟨i, cnt + 1003, ss, ts, far, true, rfl, ⟨c4, getSet hi, hc4⟩, by omega, nv, by omega, fun ns1 c5 h1 l1 hc5 => ?_⟩
  simp only [startA, List.map_cons, List.map_nil, List.length_cons, List.length_nil, List.replicate, List.cons_append, List.nil_append, Nat.reduceAdd, Nat.reduceSub, Nat.zero_add, Nat.sub_self, List.getElem?_cons_zero, List.getElem?_cons_succ, Option.map_some, wRet, wRetN, wSeq, wNext, wDrop, wIfS, wAsg, wgN, wgTup, wgCons, wgNil, wPar, wOr, wAnd, Ab.wNot, wIf, wOp, wUn, wCB, wCons, wNil, wTup, wLst, wLstM, wV, wC, wB, wCh, Ab.wTru, wNotT, wAndT, wOrT, wSl, wNo, wSome, wCall, wIsI, wIsI2, wStrip, wRev, gPop, wDNew, wDNewM, wSlW, gSlW, gAddM, gTimes, itemsA, wML, wYes, gIn, gInS, gIx, gEqv, gLt, gOrd, gAdd, gMinus, gInt, gNeg, gIs, gSl, gLen, gAbs, gTwo, gI1, gApp, gExt, gTupOf, gListOf, gListM, ims, asQ, asT, asL, dat, tru, at0, at1, at2, id_eq, AV.und, keyA, Ab.isNon, wipeS, List.set_cons_zero, List.set_cons_succ, wgSub, gSt, retA, List.take_length, takeSet, takeSet2, List.foldl_cons, List.foldl_nil, List.zip_cons_cons, List.zip_nil_right, keepS_nil, keepS_cons, keepO_none, keepO_im, keepO_wl, List.length_set, List.length_append, List.set_set, true_and, any_pr, snocAt, snocTake, ims_map, ims_mapF, atD, Option.isSome_some, Option.isSome_none, if_true, if_false, Bool.false_eq_true, ite_true, ite_false]
  refine ⟨i, cnt + 1042, ss, ts, far, true, rfl, ⟨c5, getSet hi, hc5⟩, by omega, nv, by omega, fun ns2 c6 h2 l2 hc6 => ?_⟩
  simp only [startA, List.map_cons, List.map_nil, List.length_cons, List.length_nil, List.replicate, List.cons_append, List.nil_append, Nat.reduceAdd, Nat.reduceSub, Nat.zero_add, Nat.sub_self, List.getElem?_cons_zero, List.getElem?_cons_succ, Option.map_some, wRet, wRetN, wSeq, wNext, wDrop, wIfS, wAsg, wgN, wgTup, wgCons, wgNil, wPar, wOr, wAnd, Ab.wNot, wIf, wOp, wUn, wCB, wCons, wNil, wTup, wLst, wLstM, wV, wC, wB, wCh, Ab.wTru, wNotT, wAndT, wOrT, wSl, wNo, wSome, wCall, wIsI, wIsI2, wStrip, wRev, gPop, wDNew, wDNewM, wSlW, gSlW, gAddM, gTimes, itemsA, wML, wYes, gIn, gInS, gIx, gEqv, gLt, gOrd, gAdd, gMinus, gInt, gNeg, gIs, gSl, gLen, gAbs, gTwo, gI1, gApp, gExt, gTupOf, gListOf, gListM, ims, asQ, asT, asL, dat, tru, at0, at1, at2, id_eq, AV.und, keyA, Ab.isNon, wipeS, List.set_cons_zero, List.set_cons_succ, wgSub, gSt, retA, List.take_length, takeSet, takeSet2, List.foldl_cons, List.foldl_nil, List.zip_cons_cons, List.zip_nil_right, keepS_nil, keepS_cons, keepO_none, keepO_im, keepO_wl, List.length_set, List.length_append, List.set_set, true_and, any_pr, snocAt, snocTake, ims_map, ims_mapF, atD, Option.isSome_some, Option.isSome_none, if_true, if_false, Bool.false_eq_true, ite_true, ite_false]
  refine ⟨i, cnt + 1081, ss, ts, far, false, rfl, ⟨c6, getSet hi, hc6⟩, by omega, nv, by omega, fun ns3 c7 h3 l3 hc7 => ?_⟩
  simp only [startA, List.map_cons, List.map_nil, List.length_cons, List.length_nil, List.replicate, List.cons_append, List.nil_append, Nat.reduceAdd, Nat.reduceSub, Nat.zero_add, Nat.sub_self, List.getElem?_cons_zero, List.getElem?_cons_succ, Option.map_some, wRet, wRetN, wSeq, wNext, wDrop, wIfS, wAsg, wgN, wgTup, wgCons, wgNil, wPar, wOr, wAnd, Ab.wNot, wIf, wOp, wUn, wCB, wCons, wNil, wTup, wLst, wLstM, wV, wC, wB, wCh, Ab.wTru, wNotT, wAndT, wOrT, wSl, wNo, wSome, wCall, wIsI, wIsI2, wStrip, wRev, gPop, wDNew, wDNewM, wSlW, gSlW, gAddM, gTimes, itemsA, wML, wYes, gIn, gInS, gIx, gEqv, gLt, gOrd, gAdd, gMinus, gInt, gNeg, gIs, gSl, gLen, gAbs, gTwo, gI1, gApp, gExt, gTupOf, gListOf, gListM, ims, asQ, asT, asL, dat, tru, at0, at1, at2, id_eq, AV.und, keyA, Ab.isNon, wipeS, List.set_cons_zero, List.set_cons_succ, wgSub, gSt, retA, List.take_length, takeSet, takeSet2, List.foldl_cons, List.foldl_nil, List.zip_cons_cons, List.zip_nil_right, keepS_nil, keepS_cons, keepO_none, keepO_im, keepO_wl, List.length_set, List.length_append, List.set_set, true_and, any_pr, snocAt, snocTake, ims_map, ims_mapF, atD, Option.isSome_some, Option.isSome_none, if_true, if_false, Bool.false_eq_true, ite_true, ite_false]
  refine ⟨by decide, n3 _ _ ?_⟩
  clear n3 N3
  refine wSeq_of fun N4 n4 => ?_
  obtain ⟨s0, srest, rfl⟩ : ∃ a r, ss = a :: r := by cases ss with | nil => exact absurd hls (by rw [List.length_nil]; omega) | cons a r => exact ⟨a, r, rfl⟩
  have hs0 : Nm s0 := nv.s s0 List.mem_cons_self
  have Li : ∀ (c : Cell) (l : List Cell), (m.set i c ++ l)[i]? = some c := fun c l => by rw [getApp (by simpa using hi), getSet hi]
  have Si : ∀ (c c' : Cell) (l : List Cell), (m.set i c ++ l).set i c' = m.set i c' ++ l := fun c c' l => by rw [setApp (by simpa using hi), List.set_set]
  have L0 : ∀ (c d : Cell) (l : List Cell), (m.set i c ++ (d :: l))[m.length]? = some d := fun c d l => getEnd (by simp) _
  have L1 : ∀ (c d e : Cell) (l : List Cell), (m.set i c ++ (d :: e :: l))[m.length + 1]? = some e := fun c d e l => by rw [List.getElem?_append_right (by simp)]; simp
  have S1 : ∀ (c d e e' : Cell) (l : List Cell), (m.set i c ++ (d :: e :: l)).set (m.length + 1) e' = m.set i c ++ (d :: e' :: l) := fun c d e e' l => by rw [List.set_append_right _ _ (by simp)]; simp
  simp only [startA, List.map_cons, List.map_nil, List.length_cons, List.length_nil, List.replicate, List.cons_append, List.nil_append, Nat.reduceAdd, Nat.reduceSub, Nat.zero_add, Nat.sub_self, List.getElem?_cons_zero, List.getElem?_cons_succ, Option.map_some, wRet, wRetN, wSeq, wNext, wDrop, wIfS, wAsg, wgN, wgTup, wgCons, wgNil, wPar, wOr, wAnd, Ab.wNot, wIf, wOp, wUn, wCB, wCons, wNil, wTup, wLst, wLstM, wV, wC, wB, wCh, Ab.wTru, wNotT, wAndT, wOrT, wSl, wNo, wSome, wCall, wIsI, wIsI2, wStrip, wRev, gPop, wDNew, wDNewM, wSlW, gSlW, gAddM, gTimes, itemsA, wML, wYes, gIn, gInS, gIx, gEqv, gLt, gOrd, gAdd, gMinus, gInt, gNeg, gIs, gSl, gLen, gAbs, gTwo, gI1, gApp, gExt, gTupOf, gListOf, gListM, ims, asQ, asT, asL, dat, tru, at0, at1, at2, id_eq, AV.und, keyA, Ab.isNon, wipeS, List.set_cons_zero, List.set_cons_succ, wgSub, gSt, retA, List.take_length, takeSet, takeSet2, List.foldl_cons, List.foldl_nil, List.zip_cons_cons, List.zip_nil_right, keepS_nil, keepS_cons, keepO_none, keepO_im, keepO_wl, List.length_set, List.length_append, List.set_set, true_and, any_pr, snocAt, snocTake, ims_map, ims_mapF, atD, Option.isSome_some, Option.isSome_none, if_true, if_false, Bool.false_eq_true, ite_true, ite_false, L0]
  have hcl : (cutD ns1 (some (-1)) none).length ≤ 19 := Nat.le_trans cut_len l1
  refine ⟨by rw [cut_map, List.length_map, List.length_map]; omega, by decide, by decide, by decide, by decide, ?_⟩
  have hns1' : ∀ x ∈ ns1 ++ cutD ns1 (some (-1)) none, NdOk (s0 :: srest) far x := fun x hx => (List.mem_append.mp hx).elim (h1 x) fun h => h1 x (cut_mem h)
  rw [cut_map, ← List.map_append, ← List.map_reverse, List.append_assoc, List.singleton_append]
  obtain ⟨all, hall, hal, eall⟩ : ∃ all : List AV, (∀ x ∈ all, okI x) ∧ all.length = 8 ∧ all = [AV.im (.tuple (ns1.map nodeE)), .im (.tuple (ns2.map nodeE)), .im (.tuple (ns3.map nodeE)), .im (.tuple (ns1.reverse.map nodeE)), .im (.tuple ((ns1 ++ cutD ns1 (some (-1)) none).map nodeE)), .wl (ns1.map nodeE), .im (.tuple [.tuple [.str s0, .int far]]), .im .none] :=
    ⟨_, fun x hx => by
      simp only [List.mem_cons, List.not_mem_nil, or_false] at hx
      rcases hx with h | h | h | h | h | h | h | h <;> subst h
      · exact .inl ⟨_, rfl, fineN nv (by omega) h1 (by omega)⟩
      · exact .inl ⟨_, rfl, fineN nv (by omega) h2 (by omega)⟩
      · exact .inl ⟨_, rfl, fineN nv (by omega) h3 (by omega)⟩
      · exact .inl ⟨_, rfl, fineN nv (by omega) (fun x hx => h1 x (List.mem_reverse.mp hx)) (by rw [List.length_reverse]; omega)⟩
      · exact .inl ⟨_, rfl, fineN nv (by omega) hns1' (by rw [List.length_append]; omega)⟩
      · exact .inr ⟨_, rfl, fineNL nv (by omega) h1 (by omega), noDict_nodes _⟩
      · exact .inl ⟨_, rfl, fine1 hs0 (.inl ⟨_, rfl, by omega⟩)⟩
      · exact .inl ⟨_, rfl, trivial, by decide, by decide, by decide⟩, rfl, rfl⟩
  rw [← eall]
  clear eall
  refine n4 _ _ ?_
  clear n4 N4
  generalize Cell.lst [AV.im (PyData.tuple (ns1.reverse.map nodeE)), _, _, _, _] = j0
  refine wSeq_of fun N5 n5 => ?_
  simp only [startA, List.map_cons, List.map_nil, List.length_cons, List.length_nil, List.replicate, List.cons_append, List.nil_append, Nat.reduceAdd, Nat.reduceSub, Nat.zero_add, Nat.sub_self, List.getElem?_cons_zero, List.getElem?_cons_succ, Option.map_some, wRet, wRetN, wSeq, wNext, wDrop, wIfS, wAsg, wgN, wgTup, wgCons, wgNil, wPar, wOr, wAnd, Ab.wNot, wIf, wOp, wUn, wCB, wCons, wNil, wTup, wLst, wLstM, wV, wC, wB, wCh, Ab.wTru, wNotT, wAndT, wOrT, wSl, wNo, wSome, wCall, wIsI, wIsI2, wStrip, wRev, gPop, wDNew, wDNewM, wSlW, gSlW, gAddM, gTimes, itemsA, wML, wYes, gIn, gInS, gIx, gEqv, gLt, gOrd, gAdd, gMinus, gInt, gNeg, gIs, gSl, gLen, gAbs, gTwo, gI1, gApp, gExt, gTupOf, gListOf, gListM, ims, asQ, asT, asL, dat, tru, at0, at1, at2, id_eq, AV.und, keyA, Ab.isNon, wipeS, List.set_cons_zero, List.set_cons_succ, wgSub, gSt, retA, List.take_length, takeSet, takeSet2, List.foldl_cons, List.foldl_nil, List.zip_cons_cons, List.zip_nil_right, keepS_nil, keepS_cons, keepO_none, keepO_im, keepO_wl, List.length_set, List.length_append, List.set_set, true_and, any_pr, snocAt, snocTake, ims_map, ims_mapF, atD, Option.isSome_some, Option.isSome_none, if_true, if_false, Bool.false_eq_true, ite_true, ite_false, L1, isList]
  rw [S1]
  refine ⟨by decide, by decide, by rw [hal]; decide, n5 _ _ ?_⟩
  clear n5 N5
  have okA1 : ∀ x ∈ all ++ [AV.im (.tuple [.tuple [.str s0, .int 0]])], okI x := fun x hx => (List.mem_append.mp hx).elim (hall x) fun z => by
    rw [List.mem_singleton.mp z]; exact .inl ⟨_, rfl, fine1 hs0 (.inl ⟨_, rfl, by decide⟩)⟩
  have lenA1 : (all ++ [AV.im (.tuple [.tuple [.str s0, .int 0]])]).length = 9 := by rw [List.length_append, hal]; rfl
  generalize all ++ [AV.im (.tuple [.tuple [.str s0, .int 0]])] = all1 at okA1 lenA1
  clear hal hall all
  refine wSeq_of fun N6 n6 => ?_
  simp only [startA, List.map_cons, List.map_nil, List.length_cons, List.length_nil, List.replicate, List.cons_append, List.nil_append, Nat.reduceAdd, Nat.reduceSub, Nat.zero_add, Nat.sub_self, List.getElem?_cons_zero, List.getElem?_cons_succ, Option.map_some, wRet, wRetN, wSeq, wNext, wDrop, wIfS, wAsg, wgN, wgTup, wgCons, wgNil, wPar, wOr, wAnd, Ab.wNot, wIf, wOp, wUn, wCB, wCons, wNil, wTup, wLst, wLstM, wV, wC, wB, wCh, Ab.wTru, wNotT, wAndT, wOrT, wSl, wNo, wSome, wCall, wIsI, wIsI2, wStrip, wRev, gPop, wDNew, wDNewM, wSlW, gSlW, gAddM, gTimes, itemsA, wML, wYes, gIn, gInS, gIx, gEqv, gLt, gOrd, gAdd, gMinus, gInt, gNeg, gIs, gSl, gLen, gAbs, gTwo, gI1, gApp, gExt, gTupOf, gListOf, gListM, ims, asQ, asT, asL, dat, tru, at0, at1, at2, id_eq, AV.und, keyA, Ab.isNon, wipeS, List.set_cons_zero, List.set_cons_succ, wgSub, gSt, retA, List.take_length, takeSet, takeSet2, List.foldl_cons, List.foldl_nil, List.zip_cons_cons, List.zip_nil_right, keepS_nil, keepS_cons, keepO_none, keepO_im, keepO_wl, List.length_set, List.length_append, List.set_set, true_and, any_pr, snocAt, snocTake, ims_map, ims_mapF, atD, Option.isSome_some, Option.isSome_none, if_true, if_false, Bool.false_eq_true, ite_true, ite_false, L1, wLc, wLcs, wiAny]
  have L2 : ∀ (c a b d : Cell) (l : List Cell), (m.set i c ++ (a :: b :: d :: l))[m.length + 2]? = some d := fun c a b d l => by rw [List.getElem?_append_right (by simp)]; simp
  have L3 : ∀ (c a b b2 d : Cell) (l : List Cell), (m.set i c ++ (a :: b :: b2 :: d :: l))[m.length + 3]? = some d := fun c a b b2 d l => by rw [List.getElem?_append_right (by simp)]; simp
  have L4 : ∀ (c a b b2 b3 d : Cell) (l : List Cell), (m.set i c ++ (a :: b :: b2 :: b3 :: d :: l))[m.length + 4]? = some d := fun c a b b2 b3 d l => by rw [List.getElem?_append_right (by simp)]; simp
  have S4 : ∀ (c a b b2 b3 d d' : Cell) (l : List Cell), (m.set i c ++ (a :: b :: b2 :: b3 :: d :: l)).set (m.length + 4) d' = m.set i c ++ (a :: b :: b2 :: b3 :: d' :: l) := fun c a b b2 b3 d d' l => by rw [List.set_append_right _ _ (by simp)]; simp
  refine ⟨by decide, by decide, lc_map [PyData.int 1, .int (far - 1), .bool true] AV.im (fun v => some (.im (.tuple [.tuple [.str s0, v]]))) trivial (by simp) (fun v hv Kt hk => ?_) (fun _ _ z hz => by cases hz; rfl) ?_⟩
  · simp only [startA, List.map_cons, List.map_nil, List.length_cons, List.length_nil, List.replicate, List.cons_append, List.nil_append, Nat.reduceAdd, Nat.reduceSub, Nat.zero_add, Nat.sub_self, List.getElem?_cons_zero, List.getElem?_cons_succ, Option.map_some, wRet, wRetN, wSeq, wNext, wDrop, wIfS, wAsg, wgN, wgTup, wgCons, wgNil, wPar, wOr, wAnd, Ab.wNot, wIf, wOp, wUn, wCB, wCons, wNil, wTup, wLst, wLstM, wV, wC, wB, wCh, Ab.wTru, wNotT, wAndT, wOrT, wSl, wNo, wSome, wCall, wIsI, wIsI2, wStrip, wRev, gPop, wDNew, wDNewM, wSlW, gSlW, gAddM, gTimes, itemsA, wML, wYes, gIn, gInS, gIx, gEqv, gLt, gOrd, gAdd, gMinus, gInt, gNeg, gIs, gSl, gLen, gAbs, gTwo, gI1, gApp, gExt, gTupOf, gListOf, gListM, ims, asQ, asT, asL, dat, tru, at0, at1, at2, id_eq, AV.und, keyA, Ab.isNon, wipeS, List.set_cons_zero, List.set_cons_succ, wgSub, gSt, retA, List.take_length, takeSet, takeSet2, List.foldl_cons, List.foldl_nil, List.zip_cons_cons, List.zip_nil_right, keepS_nil, keepS_cons, keepO_none, keepO_im, keepO_wl, List.length_set, List.length_append, List.set_set, true_and, any_pr, snocAt, snocTake, ims_map, ims_mapF, atD, Option.isSome_some, Option.isSome_none, if_true, if_false, Bool.false_eq_true, ite_true, ite_false, turnL]
    exact ⟨by decide, by decide, hk⟩
  rw [List.filterMap_eq_map', ims_mapF]
  have okC : ∀ x ∈ ([PyData.int 1, .int (far - 1), .bool true].map fun v => PyData.tuple [.tuple [.str s0, v]]).map AV.im, okI x := fun x hx => by
    simp only [List.map_cons, List.map_nil, List.mem_cons, List.not_mem_nil, or_false] at hx
    rcases hx with h | h | h <;> subst h
    · exact .inl ⟨_, rfl, fine1 hs0 (.inl ⟨_, rfl, by decide⟩)⟩
    · exact .inl ⟨_, rfl, fine1 hs0 (.inl ⟨_, rfl, by omega⟩)⟩
    · exact .inl ⟨_, rfl, fine1 hs0 (.inr ⟨_, rfl⟩)⟩
  have lenC : (([PyData.int 1, .int (far - 1), .bool true].map fun v => PyData.tuple [.tuple [.str s0, v]]).map AV.im).length = 3 := rfl
  generalize ([PyData.int 1, .int (far - 1), .bool true].map fun v => PyData.tuple [.tuple [.str s0, v]]) = cs at okC lenC
  have okD : ∀ x ∈ [AV.im (.bool true), .im (.int 0), .im (.str (Str.ofString "")), .im (.tuple []), .im (.list []), .im (.dict []), .im (netD (s0 :: srest) ts), .im (.tuple (.str s0 :: srest.map .str))], okI x := fun x hx => by
    simp only [List.mem_cons, List.not_mem_nil, or_false] at hx
    rcases hx with h | h | h | h | h | h | h | h <;> subst h
    · exact .inl ⟨_, rfl, trivial, by decide, by decide, by decide⟩
    · exact .inl ⟨_, rfl, show (0 : Int).natAbs ≤ 10 ^ 40 by decide, by decide, by decide, by decide⟩
    · exact .inl ⟨_, rfl, (fun c hc => by cases hc), by decide +kernel, by decide, by decide⟩
    · exact .inl ⟨_, rfl, trivial, by decide, by decide, by decide⟩
    · exact .inl ⟨_, rfl, trivial, by decide, by decide, by decide⟩
    · exact .inl ⟨_, rfl, rfl, by decide, by decide, by decide⟩
    · exact .inl ⟨_, rfl, fine_net nv⟩
    · exact .inl ⟨_, rfl, fine_ss nv hls hy⟩
  have lenD : ([AV.im (.bool true), .im (.int 0), .im (.str (Str.ofString "")), .im (.tuple []), .im (.list []), .im (.dict []), .im (netD (s0 :: srest) ts), .im (.tuple (.str s0 :: srest.map .str))] : List AV).length = 8 := rfl
  generalize [AV.im (.bool true), .im (.int 0), .im (.str (Str.ofString "")), .im (.tuple []), .im (.list []), .im (.dict []), .im (netD (s0 :: srest) ts), .im (.tuple (.str s0 :: srest.map .str))] = dsp at okD lenD
  simp only [L1, L2, L3, List.length_append, List.length_set, List.length_cons, List.length_nil, List.append_assoc, List.cons_append, List.nil_append, Nat.add_assoc, Nat.reduceAdd]
  rw [List.length_map] at lenC
  have okAll : ∀ x ∈ all1 ++ (cs.map AV.im ++ dsp), okI x := fun x hx => (List.mem_append.mp hx).elim (okA1 x) fun h => (List.mem_append.mp h).elim (okC x) (okD x)
  have lenAll : (all1 ++ (cs.map AV.im ++ dsp)).length = 20 := by rw [List.length_append, List.length_append, List.length_map, lenA1, lenC, lenD]
  rw [List.length_map, lenA1, lenC, lenD]
  refine ⟨by decide, by decide, by decide, by decide, by decide, n6 _ _ ?_⟩
  clear n6 N6
  generalize all1 ++ (cs.map AV.im ++ dsp) = all at okAll lenAll
  generalize Cell.lst all1 = j1
  generalize Cell.lst (all1 ++ cs.map AV.im) = j2
  generalize Cell.lst dsp = j3
  clear okA1 okC okD lenA1 lenC lenD
  have f1 := odN nv (by omega) h1 (by omega)
  have f2 := odN nv (by omega) h2 (by omega)
  have f3 := odN nv (by omega) h3 (by omega)
  have g1 : tupL (.tuple (ns1.map nodeE)) ≤ 19 := by show (ns1.map nodeE).length ≤ 19; rw [List.length_map]; exact l1
  have g2 : tupL (.tuple (ns2.map nodeE)) ≤ 19 := by show (ns2.map nodeE).length ≤ 19; rw [List.length_map]; exact l2
  have g3 : tupL (.tuple (ns3.map nodeE)) ≤ 19 := by show (ns3.map nodeE).length ≤ 19; rw [List.length_map]; exact l3
  obtain ⟨good, hgood, hgl, egood⟩ : ∃ good : List PyData, (∀ y ∈ good, Od (10 ^ 20) 2700 4 y ∧ tupL y ≤ 19) ∧ good.length = 3 ∧ good = [.tuple (ns1.map nodeE), .tuple (ns2.map nodeE), .tuple (ns3.map nodeE)] :=
    ⟨_, fun y hy => by
      simp only [List.mem_cons, List.not_mem_nil, or_false] at hy
      rcases hy with h | h | h <;> subst h
      · exact ⟨f1, g1⟩
      · exact ⟨f2, g2⟩
      · exact ⟨f3, g3⟩, rfl, rfl⟩
  rw [← egood]
  clear egood f1 f2 f3 g1 g2 g3 h1 h2 h3 l1 l2 l3 hns1' hcl
  refine wSeq_of fun N7 n7 => ?_
  refine wFor_of fun B2 b2 => ?_
  simp only [startA, List.map_cons, List.map_nil, List.length_cons, List.length_nil, List.replicate, List.cons_append, List.nil_append, Nat.reduceAdd, Nat.reduceSub, Nat.zero_add, Nat.sub_self, List.getElem?_cons_zero, List.getElem?_cons_succ, Option.map_some, wRet, wRetN, wSeq, wNext, wDrop, wIfS, wAsg, wgN, wgTup, wgCons, wgNil, wPar, wOr, wAnd, Ab.wNot, wIf, wOp, wUn, wCB, wCons, wNil, wTup, wLst, wLstM, wV, wC, wB, wCh, Ab.wTru, wNotT, wAndT, wOrT, wSl, wNo, wSome, wCall, wIsI, wIsI2, wStrip, wRev, gPop, wDNew, wDNewM, wSlW, gSlW, gAddM, gTimes, itemsA, wML, wYes, gIn, gInS, gIx, gEqv, gLt, gOrd, gAdd, gMinus, gInt, gNeg, gIs, gSl, gLen, gAbs, gTwo, gI1, gApp, gExt, gTupOf, gListOf, gListM, ims, asQ, asT, asL, dat, tru, at0, at1, at2, id_eq, AV.und, keyA, Ab.isNon, wipeS, List.set_cons_zero, List.set_cons_succ, wgSub, gSt, retA, List.take_length, takeSet, takeSet2, List.foldl_cons, List.foldl_nil, List.zip_cons_cons, List.zip_nil_right, keepS_nil, keepS_cons, keepO_none, keepO_im, keepO_wl, List.length_set, List.length_append, List.set_set, true_and, any_pr, snocAt, snocTake, ims_map, ims_mapF, atD, Option.isSome_some, Option.isSome_none, if_true, if_false, Bool.false_eq_true, ite_true, ite_false, wiR1]
  refine ⟨⟨by decide, by decide⟩, ?_⟩
  have nvS := nv
  refine for_inv (fun xs ρ m' => ∃ cnt2 c r all o1, cnt2 + 20 * xs.length ≤ cnt + 1600 ∧ m' = m.set i c ++ [j0, j1, j2, j3, .lst all] ∧ (∀ x ∈ all, okI x) ∧ all.length + 2 * xs.length ≤ 100 ∧ dkC cnt2 c ∧
      ρ = [some (.mu i), o1, some (.im (netD (s0 :: srest) ts)), some (.im (.int far)), some (.im (.list good)), some (.mu (m.length + 4))] ++ r ∧ r.length = 6) (fun _ _ _ _ => trivial) ?_ ?_ ⟨_, c7, _, all, _, ?_, rfl, okAll, by simp [rngL, lenAll], hc7, rfl, rfl⟩
  · rintro x2 xs2 ρ m' nx2 ⟨cnt2, c, r, all, o1, hcnt2, rfl, hall, hal, hc, rfl, hr6⟩ next2
    obtain ⟨o6, o7, o8, o9, o10, o11, rfl⟩ := len6 hr6
    rw [List.length_cons] at hcnt2 hal
    refine b2 _ _ _ _ ?_
    clear b2
    simp only [wgN, wgTup, wgCons, wgNil, List.map_cons, List.map_nil, List.set_cons_zero, List.set_cons_succ, List.length_cons, List.length_nil]
    refine wSeq_of fun N8 n8 => ?_
    simp only [startA, List.map_cons, List.map_nil, List.length_cons, List.length_nil, List.replicate, List.cons_append, List.nil_append, Nat.reduceAdd, Nat.reduceSub, Nat.zero_add, Nat.sub_self, List.getElem?_cons_zero, List.getElem?_cons_succ, Option.map_some, wRet, wRetN, wSeq, wNext, wDrop, wIfS, wAsg, wgN, wgTup, wgCons, wgNil, wPar, wOr, wAnd, Ab.wNot, wIf, wOp, wUn, wCB, wCons, wNil, wTup, wLst, wLstM, wV, wC, wB, wCh, Ab.wTru, wNotT, wAndT, wOrT, wSl, wNo, wSome, wCall, wIsI, wIsI2, wStrip, wRev, gPop, wDNew, wDNewM, wSlW, gSlW, gAddM, gTimes, itemsA, wML, wYes, gIn, gInS, gIx, gEqv, gLt, gOrd, gAdd, gMinus, gInt, gNeg, gIs, gSl, gLen, gAbs, gTwo, gI1, gApp, gExt, gTupOf, gListOf, gListM, ims, asQ, asT, asL, dat, tru, at0, at1, at2, id_eq, AV.und, keyA, Ab.isNon, wipeS, List.set_cons_zero, List.set_cons_succ, wgSub, gSt, retA, List.take_length, takeSet, takeSet2, List.foldl_cons, List.foldl_nil, List.zip_cons_cons, List.zip_nil_right, keepS_nil, keepS_cons, keepO_none, keepO_im, keepO_wl, List.length_set, List.length_append, List.set_set, true_and, any_pr, snocAt, snocTake, ims_map, ims_mapF, atD, Option.isSome_some, Option.isSome_none, if_true, if_false, Bool.false_eq_true, ite_true, ite_false]
    refine ⟨i, cnt2, _, good, rfl, ⟨c, Li _ _, hc⟩, by omega, fun _ => rfl, rfl, by rw [hgl]; decide, by rw [hgl]; decide, fun y6 hy6 c8 hc8 => ?_⟩
    obtain ⟨f, fl⟩ := hgood y6 hy6
    simp only [startA, List.map_cons, List.map_nil, List.length_cons, List.length_nil, List.replicate, List.cons_append, List.nil_append, Nat.reduceAdd, Nat.reduceSub, Nat.zero_add, Nat.sub_self, List.getElem?_cons_zero, List.getElem?_cons_succ, Option.map_some, wRet, wRetN, wSeq, wNext, wDrop, wIfS, wAsg, wgN, wgTup, wgCons, wgNil, wPar, wOr, wAnd, Ab.wNot, wIf, wOp, wUn, wCB, wCons, wNil, wTup, wLst, wLstM, wV, wC, wB, wCh, Ab.wTru, wNotT, wAndT, wOrT, wSl, wNo, wSome, wCall, wIsI, wIsI2, wStrip, wRev, gPop, wDNew, wDNewM, wSlW, gSlW, gAddM, gTimes, itemsA, wML, wYes, gIn, gInS, gIx, gEqv, gLt, gOrd, gAdd, gMinus, gInt, gNeg, gIs, gSl, gLen, gAbs, gTwo, gI1, gApp, gExt, gTupOf, gListOf, gListM, ims, asQ, asT, asL, dat, tru, at0, at1, at2, id_eq, AV.und, keyA, Ab.isNon, wipeS, List.set_cons_zero, List.set_cons_succ, wgSub, gSt, retA, List.take_length, takeSet, takeSet2, List.foldl_cons, List.foldl_nil, List.zip_cons_cons, List.zip_nil_right, keepS_nil, keepS_cons, keepO_none, keepO_im, keepO_wl, List.length_set, List.length_append, List.set_set, true_and, any_pr, snocAt, snocTake, ims_map, ims_mapF, atD, Option.isSome_some, Option.isSome_none, if_true, if_false, Bool.false_eq_true, ite_true, ite_false, Si]
    refine ⟨i, cnt2 + 1, y6, 2, _, _, _, rfl, ⟨c8, Li _ _, hc8⟩, by decide, by omega, f, by decide, by decide, by decide, fun d1 c9 g1 t1 hc9 => ?_⟩
    simp only [startA, List.map_cons, List.map_nil, List.length_cons, List.length_nil, List.replicate, List.cons_append, List.nil_append, Nat.reduceAdd, Nat.reduceSub, Nat.zero_add, Nat.sub_self, List.getElem?_cons_zero, List.getElem?_cons_succ, Option.map_some, wRet, wRetN, wSeq, wNext, wDrop, wIfS, wAsg, wgN, wgTup, wgCons, wgNil, wPar, wOr, wAnd, Ab.wNot, wIf, wOp, wUn, wCB, wCons, wNil, wTup, wLst, wLstM, wV, wC, wB, wCh, Ab.wTru, wNotT, wAndT, wOrT, wSl, wNo, wSome, wCall, wIsI, wIsI2, wStrip, wRev, gPop, wDNew, wDNewM, wSlW, gSlW, gAddM, gTimes, itemsA, wML, wYes, gIn, gInS, gIx, gEqv, gLt, gOrd, gAdd, gMinus, gInt, gNeg, gIs, gSl, gLen, gAbs, gTwo, gI1, gApp, gExt, gTupOf, gListOf, gListM, ims, asQ, asT, asL, dat, tru, at0, at1, at2, id_eq, AV.und, keyA, Ab.isNon, wipeS, List.set_cons_zero, List.set_cons_succ, wgSub, gSt, retA, List.take_length, takeSet, takeSet2, List.foldl_cons, List.foldl_nil, List.zip_cons_cons, List.zip_nil_right, keepS_nil, keepS_cons, keepO_none, keepO_im, keepO_wl, List.length_set, List.length_append, List.set_set, true_and, any_pr, snocAt, snocTake, ims_map, ims_mapF, atD, Option.isSome_some, Option.isSome_none, if_true, if_false, Bool.false_eq_true, ite_true, ite_false, Si]
    refine n8 _ _ ?_
    clear n8 N8
    simp only [startA, List.map_cons, List.map_nil, List.length_cons, List.length_nil, List.replicate, List.cons_append, List.nil_append, Nat.reduceAdd, Nat.reduceSub, Nat.zero_add, Nat.sub_self, List.getElem?_cons_zero, List.getElem?_cons_succ, Option.map_some, wRet, wRetN, wSeq, wNext, wDrop, wIfS, wAsg, wgN, wgTup, wgCons, wgNil, wPar, wOr, wAnd, Ab.wNot, wIf, wOp, wUn, wCB, wCons, wNil, wTup, wLst, wLstM, wV, wC, wB, wCh, Ab.wTru, wNotT, wAndT, wOrT, wSl, wNo, wSome, wCall, wIsI, wIsI2, wStrip, wRev, gPop, wDNew, wDNewM, wSlW, gSlW, gAddM, gTimes, itemsA, wML, wYes, gIn, gInS, gIx, gEqv, gLt, gOrd, gAdd, gMinus, gInt, gNeg, gIs, gSl, gLen, gAbs, gTwo, gI1, gApp, gExt, gTupOf, gListOf, gListM, ims, asQ, asT, asL, dat, tru, at0, at1, at2, id_eq, AV.und, keyA, Ab.isNon, wipeS, List.set_cons_zero, List.set_cons_succ, wgSub, gSt, retA, List.take_length, takeSet, takeSet2, List.foldl_cons, List.foldl_nil, List.zip_cons_cons, List.zip_nil_right, keepS_nil, keepS_cons, keepO_none, keepO_im, keepO_wl, List.length_set, List.length_append, List.set_set, true_and, any_pr, snocAt, snocTake, ims_map, ims_mapF, atD, Option.isSome_some, Option.isSome_none, if_true, if_false, Bool.false_eq_true, ite_true, ite_false, L4, isList]
    refine ⟨i, cnt2 + 1 + 2 * 2 + 1, d1, 2, _, _, _, rfl, ⟨c9, Li _ _, hc9⟩, by decide, by omega, g1, by decide, by decide, by decide, fun d2 c10 g2 t2 hc10 => ?_⟩
    simp only [startA, List.map_cons, List.map_nil, List.length_cons, List.length_nil, List.replicate, List.cons_append, List.nil_append, Nat.reduceAdd, Nat.reduceSub, Nat.zero_add, Nat.sub_self, List.getElem?_cons_zero, List.getElem?_cons_succ, Option.map_some, wRet, wRetN, wSeq, wNext, wDrop, wIfS, wAsg, wgN, wgTup, wgCons, wgNil, wPar, wOr, wAnd, Ab.wNot, wIf, wOp, wUn, wCB, wCons, wNil, wTup, wLst, wLstM, wV, wC, wB, wCh, Ab.wTru, wNotT, wAndT, wOrT, wSl, wNo, wSome, wCall, wIsI, wIsI2, wStrip, wRev, gPop, wDNew, wDNewM, wSlW, gSlW, gAddM, gTimes, itemsA, wML, wYes, gIn, gInS, gIx, gEqv, gLt, gOrd, gAdd, gMinus, gInt, gNeg, gIs, gSl, gLen, gAbs, gTwo, gI1, gApp, gExt, gTupOf, gListOf, gListM, ims, asQ, asT, asL, dat, tru, at0, at1, at2, id_eq, AV.und, keyA, Ab.isNon, wipeS, List.set_cons_zero, List.set_cons_succ, wgSub, gSt, retA, List.take_length, takeSet, takeSet2, List.foldl_cons, List.foldl_nil, List.zip_cons_cons, List.zip_nil_right, keepS_nil, keepS_cons, keepO_none, keepO_im, keepO_wl, List.length_set, List.length_append, List.set_set, true_and, any_pr, snocAt, snocTake, ims_map, ims_mapF, atD, Option.isSome_some, Option.isSome_none, if_true, if_false, Bool.false_eq_true, ite_true, ite_false, Si, L4, S4]
    refine ⟨by decide, by rw [sizeLine_eq]; omega, ?_⟩
    refine next2 _ _ ⟨cnt2 + 12, c10, _, all ++ [.im d1, .im d2], _, by omega, ?_, fun y hy => ?_, by rw [List.length_append]; simp only [List.length_cons, List.length_nil]; omega, hc10.mono (by omega), by simp only [startA, List.map_cons, List.map_nil, List.length_cons, List.length_nil, List.replicate, List.cons_append, List.nil_append, Nat.reduceAdd, Nat.reduceSub, Nat.zero_add, Nat.sub_self, List.getElem?_cons_zero, List.getElem?_cons_succ, Option.map_some, wRet, wRetN, wSeq, wNext, wDrop, wIfS, wAsg, wgN, wgTup, wgCons, wgNil, wPar, wOr, wAnd, Ab.wNot, wIf, wOp, wUn, wCB, wCons, wNil, wTup, wLst, wLstM, wV, wC, wB, wCh, Ab.wTru, wNotT, wAndT, wOrT, wSl, wNo, wSome, wCall, wIsI, wIsI2, wStrip, wRev, gPop, wDNew, wDNewM, wSlW, gSlW, gAddM, gTimes, itemsA, wML, wYes, gIn, gInS, gIx, gEqv, gLt, gOrd, gAdd, gMinus, gInt, gNeg, gIs, gSl, gLen, gAbs, gTwo, gI1, gApp, gExt, gTupOf, gListOf, gListM, ims, asQ, asT, asL, dat, tru, at0, at1, at2, id_eq, AV.und, keyA, Ab.isNon, wipeS, List.set_cons_zero, List.set_cons_succ, wgSub, gSt, retA, List.take_length, takeSet, takeSet2, List.foldl_cons, List.foldl_nil, List.zip_cons_cons, List.zip_nil_right, keepS_nil, keepS_cons, keepO_none, keepO_im, keepO_wl, List.length_set, List.length_append, List.set_set, true_and, any_pr, snocAt, snocTake, ims_map, ims_mapF, atD, Option.isSome_some, Option.isSome_none, if_true, if_false, Bool.false_eq_true, ite_true, ite_false, keepO_mu (show i < m.length + 5 by omega), keepO_mu (show m.length + 4 < m.length + 5 by omega)] <;> rfl, by simp [keepS]⟩
    · rw [List.take_of_length_le (by simp)]
    · rcases List.mem_append.mp hy with h | h
      · exact hall y h
      · simp only [List.mem_cons, List.not_mem_nil, or_false] at h
        rcases h with h | h <;> subst h
        · exact .inl ⟨_, rfl, g1.g.mono (by decide), Nat.le_trans g1.w (by decide), Nat.le_trans g1.d (by decide), by omega⟩
        · exact .inl ⟨_, rfl, g2.g.mono (by decide), Nat.le_trans g2.w (by decide), Nat.le_trans g2.d (by decide), by omega⟩
  · rintro ρ m' ⟨cnt2, c, r, all, o1, hcnt2, rfl, hall, hal, hc, rfl, hr6⟩
    obtain ⟨o6, o7, o8, o9, o10, o11, rfl⟩ := len6 hr6
    refine n7 _ _ ?_
    clear n7 b2
    refine wFor_of fun B3 b3 => ?_
    simp only [startA, List.map_cons, List.map_nil, List.length_cons, List.length_nil, List.replicate, List.cons_append, List.nil_append, Nat.reduceAdd, Nat.reduceSub, Nat.zero_add, Nat.sub_self, List.getElem?_cons_zero, List.getElem?_cons_succ, Option.map_some, wRet, wRetN, wSeq, wNext, wDrop, wIfS, wAsg, wgN, wgTup, wgCons, wgNil, wPar, wOr, wAnd, Ab.wNot, wIf, wOp, wUn, wCB, wCons, wNil, wTup, wLst, wLstM, wV, wC, wB, wCh, Ab.wTru, wNotT, wAndT, wOrT, wSl, wNo, wSome, wCall, wIsI, wIsI2, wStrip, wRev, gPop, wDNew, wDNewM, wSlW, gSlW, gAddM, gTimes, itemsA, wML, wYes, gIn, gInS, gIx, gEqv, gLt, gOrd, gAdd, gMinus, gInt, gNeg, gIs, gSl, gLen, gAbs, gTwo, gI1, gApp, gExt, gTupOf, gListOf, gListM, ims, asQ, asT, asL, dat, tru, at0, at1, at2, id_eq, AV.und, keyA, Ab.isNon, wipeS, List.set_cons_zero, List.set_cons_succ, wgSub, gSt, retA, List.take_length, takeSet, takeSet2, List.foldl_cons, List.foldl_nil, List.zip_cons_cons, List.zip_nil_right, keepS_nil, keepS_cons, keepO_none, keepO_im, keepO_wl, List.length_set, List.length_append, List.set_set, true_and, any_pr, snocAt, snocTake, ims_map, ims_mapF, atD, Option.isSome_some, Option.isSome_none, if_true, if_false, Bool.false_eq_true, ite_true, ite_false, wiAny, L4]
    refine for_inv (fun xs ρ m' => ∃ r o1, (∀ x ∈ xs, okI x) ∧ m' = m.set i c ++ [j0, j1, j2, j3, .lst all] ∧ ρ = [some (.mu i), o1, some (.im (netD (s0 :: srest) ts)), some (.im (.int far))] ++ r ∧ r.length = 8) ?_ ?_ ?_ ⟨_, _, hall, rfl, rfl, rfl⟩
    · rintro xs ρ m' ⟨r, o1, _, rfl, _, _⟩
      exact L4 _ _ _ _ _ _ _
    · rintro x3 xs3 ρ m' nx3 ⟨r, o1, hl, rfl, rfl, hr8⟩ next3
      obtain ⟨p1, p2, p3, p4, p5, p6, p7, p8, rfl⟩ := len8 hr8
      have hx := hl x3 List.mem_cons_self
      have rb : ∀ b : Bool, (PyData.bool b).showable = true ∧ (PyData.bool b).depth ≤ 100 ∧ (PyData.bool b).shown.length ≤ sizeLine := fun b => repr_ok (W := 100) trivial (by simp [wt]) (by decide) (by simp [PyData.depth])
      refine b3 _ _ _ _ ?_
      clear b3
      simp only [wgN, wgTup, wgCons, wgNil, List.map_cons, List.map_nil, List.set_cons_zero, List.set_cons_succ, List.length_cons, List.length_nil]
      refine wSeq_of fun N9 n9 => ?_
      rcases hx with ⟨v, rfl, fv⟩ | ⟨zs, rfl, fv, nd⟩
      · obtain ⟨r1, r2, r3⟩ := repr_ok fv.1 fv.2.1 (by decide) (by have := fv.2.2.1; omega)
        simp only [startA, List.map_cons, List.map_nil, List.length_cons, List.length_nil, List.replicate, List.cons_append, List.nil_append, Nat.reduceAdd, Nat.reduceSub, Nat.zero_add, Nat.sub_self, List.getElem?_cons_zero, List.getElem?_cons_succ, Option.map_some, wRet, wRetN, wSeq, wNext, wDrop, wIfS, wAsg, wgN, wgTup, wgCons, wgNil, wPar, wOr, wAnd, Ab.wNot, wIf, wOp, wUn, wCB, wCons, wNil, wTup, wLst, wLstM, wV, wC, wB, wCh, Ab.wTru, wNotT, wAndT, wOrT, wSl, wNo, wSome, wCall, wIsI, wIsI2, wStrip, wRev, gPop, wDNew, wDNewM, wSlW, gSlW, gAddM, gTimes, itemsA, wML, wYes, gIn, gInS, gIx, gEqv, gLt, gOrd, gAdd, gMinus, gInt, gNeg, gIs, gSl, gLen, gAbs, gTwo, gI1, gApp, gExt, gTupOf, gListOf, gListM, ims, asQ, asT, asL, dat, tru, at0, at1, at2, id_eq, AV.und, keyA, Ab.isNon, wipeS, List.set_cons_zero, List.set_cons_succ, wgSub, gSt, retA, List.take_length, takeSet, takeSet2, List.foldl_cons, List.foldl_nil, List.zip_cons_cons, List.zip_nil_right, keepS_nil, keepS_cons, keepO_none, keepO_im, keepO_wl, List.length_set, List.length_append, List.set_set, true_and, any_pr, snocAt, snocTake, ims_map, ims_mapF, atD, Option.isSome_some, Option.isSome_none, if_true, if_false, Bool.false_eq_true, ite_true, ite_false, gRepr]
        refine ⟨r1, r2, r3, .inr ⟨_, rfl⟩, .inl ⟨_, _, rfl, ⟨_, _, _, _, rfl, nv, by have := fv.2.2.2; omega, rfl⟩, ?_⟩⟩
        refine n9 _ _ ?_
        clear n9 N9
        simp only [startA, List.map_cons, List.map_nil, List.length_cons, List.length_nil, List.replicate, List.cons_append, List.nil_append, Nat.reduceAdd, Nat.reduceSub, Nat.zero_add, Nat.sub_self, List.getElem?_cons_zero, List.getElem?_cons_succ, Option.map_some, wRet, wRetN, wSeq, wNext, wDrop, wIfS, wAsg, wgN, wgTup, wgCons, wgNil, wPar, wOr, wAnd, Ab.wNot, wIf, wOp, wUn, wCB, wCons, wNil, wTup, wLst, wLstM, wV, wC, wB, wCh, Ab.wTru, wNotT, wAndT, wOrT, wSl, wNo, wSome, wCall, wIsI, wIsI2, wStrip, wRev, gPop, wDNew, wDNewM, wSlW, gSlW, gAddM, gTimes, itemsA, wML, wYes, gIn, gInS, gIx, gEqv, gLt, gOrd, gAdd, gMinus, gInt, gNeg, gIs, gSl, gLen, gAbs, gTwo, gI1, gApp, gExt, gTupOf, gListOf, gListM, ims, asQ, asT, asL, dat, tru, at0, at1, at2, id_eq, AV.und, keyA, Ab.isNon, wipeS, List.set_cons_zero, List.set_cons_succ, wgSub, gSt, retA, List.take_length, takeSet, takeSet2, List.foldl_cons, List.foldl_nil, List.zip_cons_cons, List.zip_nil_right, keepS_nil, keepS_cons, keepO_none, keepO_im, keepO_wl, List.length_set, List.length_append, List.set_set, true_and, any_pr, snocAt, snocTake, ims_map, ims_mapF, atD, Option.isSome_some, Option.isSome_none, if_true, if_false, Bool.false_eq_true, ite_true, ite_false, gRepr]
        obtain ⟨x1, x2, x3⟩ := rb (apartB (s0 :: srest) ts far v)
        refine .inl ⟨_, _, rfl, ⟨_, _, _, _, rfl, nv, by have := fv.2.2.2; omega, rfl⟩, ?_⟩
        simp only [startA, List.map_cons, List.map_nil, List.length_cons, List.length_nil, List.replicate, List.cons_append, List.nil_append, Nat.reduceAdd, Nat.reduceSub, Nat.zero_add, Nat.sub_self, List.getElem?_cons_zero, List.getElem?_cons_succ, Option.map_some, wRet, wRetN, wSeq, wNext, wDrop, wIfS, wAsg, wgN, wgTup, wgCons, wgNil, wPar, wOr, wAnd, Ab.wNot, wIf, wOp, wUn, wCB, wCons, wNil, wTup, wLst, wLstM, wV, wC, wB, wCh, Ab.wTru, wNotT, wAndT, wOrT, wSl, wNo, wSome, wCall, wIsI, wIsI2, wStrip, wRev, gPop, wDNew, wDNewM, wSlW, gSlW, gAddM, gTimes, itemsA, wML, wYes, gIn, gInS, gIx, gEqv, gLt, gOrd, gAdd, gMinus, gInt, gNeg, gIs, gSl, gLen, gAbs, gTwo, gI1, gApp, gExt, gTupOf, gListOf, gListM, ims, asQ, asT, asL, dat, tru, at0, at1, at2, id_eq, AV.und, keyA, Ab.isNon, wipeS, List.set_cons_zero, List.set_cons_succ, wgSub, gSt, retA, List.take_length, takeSet, takeSet2, List.foldl_cons, List.foldl_nil, List.zip_cons_cons, List.zip_nil_right, keepS_nil, keepS_cons, keepO_none, keepO_im, keepO_wl, List.length_set, List.length_append, List.set_set, true_and, any_pr, snocAt, snocTake, ims_map, ims_mapF, atD, Option.isSome_some, Option.isSome_none, if_true, if_false, Bool.false_eq_true, ite_true, ite_false, gRepr]
        refine ⟨x1, x2, x3, .inr ⟨_, rfl⟩, x1, x2, x3, .inr ⟨_, rfl⟩, ?_⟩
        simp only [decide_true, Bool.not_true, Bool.false_eq_true, if_false]
        refine ⟨r1, r2, r3, .inr ⟨_, rfl⟩, ?_⟩
        refine next3 _ _ ⟨_, _, fun y hy => hl y (List.mem_cons_of_mem _ hy), List.take_of_length_le (by simp), by simp only [startA, List.map_cons, List.map_nil, List.length_cons, List.length_nil, List.replicate, List.cons_append, List.nil_append, Nat.reduceAdd, Nat.reduceSub, Nat.zero_add, Nat.sub_self, List.getElem?_cons_zero, List.getElem?_cons_succ, Option.map_some, wRet, wRetN, wSeq, wNext, wDrop, wIfS, wAsg, wgN, wgTup, wgCons, wgNil, wPar, wOr, wAnd, Ab.wNot, wIf, wOp, wUn, wCB, wCons, wNil, wTup, wLst, wLstM, wV, wC, wB, wCh, Ab.wTru, wNotT, wAndT, wOrT, wSl, wNo, wSome, wCall, wIsI, wIsI2, wStrip, wRev, gPop, wDNew, wDNewM, wSlW, gSlW, gAddM, gTimes, itemsA, wML, wYes, gIn, gInS, gIx, gEqv, gLt, gOrd, gAdd, gMinus, gInt, gNeg, gIs, gSl, gLen, gAbs, gTwo, gI1, gApp, gExt, gTupOf, gListOf, gListM, ims, asQ, asT, asL, dat, tru, at0, at1, at2, id_eq, AV.und, keyA, Ab.isNon, wipeS, List.set_cons_zero, List.set_cons_succ, wgSub, gSt, retA, List.take_length, takeSet, takeSet2, List.foldl_cons, List.foldl_nil, List.zip_cons_cons, List.zip_nil_right, keepS_nil, keepS_cons, keepO_none, keepO_im, keepO_wl, List.length_set, List.length_append, List.set_set, true_and, any_pr, snocAt, snocTake, ims_map, ims_mapF, atD, Option.isSome_some, Option.isSome_none, if_true, if_false, Bool.false_eq_true, ite_true, ite_false, keepO_mu (show i < m.length + 5 by omega)] <;> rfl, by simp [keepS]⟩
      · obtain ⟨r1, r2, r3⟩ := repr_ok fv.1 fv.2.1 (by decide) (by have := fv.2.2.1; omega)
        simp only [startA, List.map_cons, List.map_nil, List.length_cons, List.length_nil, List.replicate, List.cons_append, List.nil_append, Nat.reduceAdd, Nat.reduceSub, Nat.zero_add, Nat.sub_self, List.getElem?_cons_zero, List.getElem?_cons_succ, Option.map_some, wRet, wRetN, wSeq, wNext, wDrop, wIfS, wAsg, wgN, wgTup, wgCons, wgNil, wPar, wOr, wAnd, Ab.wNot, wIf, wOp, wUn, wCB, wCons, wNil, wTup, wLst, wLstM, wV, wC, wB, wCh, Ab.wTru, wNotT, wAndT, wOrT, wSl, wNo, wSome, wCall, wIsI, wIsI2, wStrip, wRev, gPop, wDNew, wDNewM, wSlW, gSlW, gAddM, gTimes, itemsA, wML, wYes, gIn, gInS, gIx, gEqv, gLt, gOrd, gAdd, gMinus, gInt, gNeg, gIs, gSl, gLen, gAbs, gTwo, gI1, gApp, gExt, gTupOf, gListOf, gListM, ims, asQ, asT, asL, dat, tru, at0, at1, at2, id_eq, AV.und, keyA, Ab.isNon, wipeS, List.set_cons_zero, List.set_cons_succ, wgSub, gSt, retA, List.take_length, takeSet, takeSet2, List.foldl_cons, List.foldl_nil, List.zip_cons_cons, List.zip_nil_right, keepS_nil, keepS_cons, keepO_none, keepO_im, keepO_wl, List.length_set, List.length_append, List.set_set, true_and, any_pr, snocAt, snocTake, ims_map, ims_mapF, atD, Option.isSome_some, Option.isSome_none, if_true, if_false, Bool.false_eq_true, ite_true, ite_false, gRepr]
        refine ⟨r1, r2, r3, .inl nd, .inr ⟨_, _, _, _, rfl, nv, ?_⟩⟩
        refine n9 _ _ ?_
        clear n9 N9
        simp only [startA, List.map_cons, List.map_nil, List.length_cons, List.length_nil, List.replicate, List.cons_append, List.nil_append, Nat.reduceAdd, Nat.reduceSub, Nat.zero_add, Nat.sub_self, List.getElem?_cons_zero, List.getElem?_cons_succ, Option.map_some, wRet, wRetN, wSeq, wNext, wDrop, wIfS, wAsg, wgN, wgTup, wgCons, wgNil, wPar, wOr, wAnd, Ab.wNot, wIf, wOp, wUn, wCB, wCons, wNil, wTup, wLst, wLstM, wV, wC, wB, wCh, Ab.wTru, wNotT, wAndT, wOrT, wSl, wNo, wSome, wCall, wIsI, wIsI2, wStrip, wRev, gPop, wDNew, wDNewM, wSlW, gSlW, gAddM, gTimes, itemsA, wML, wYes, gIn, gInS, gIx, gEqv, gLt, gOrd, gAdd, gMinus, gInt, gNeg, gIs, gSl, gLen, gAbs, gTwo, gI1, gApp, gExt, gTupOf, gListOf, gListM, ims, asQ, asT, asL, dat, tru, at0, at1, at2, id_eq, AV.und, keyA, Ab.isNon, wipeS, List.set_cons_zero, List.set_cons_succ, wgSub, gSt, retA, List.take_length, takeSet, takeSet2, List.foldl_cons, List.foldl_nil, List.zip_cons_cons, List.zip_nil_right, keepS_nil, keepS_cons, keepO_none, keepO_im, keepO_wl, List.length_set, List.length_append, List.set_set, true_and, any_pr, snocAt, snocTake, ims_map, ims_mapF, atD, Option.isSome_some, Option.isSome_none, if_true, if_false, Bool.false_eq_true, ite_true, ite_false, gRepr]
        obtain ⟨x1, x2, x3⟩ := rb false
        refine .inr ⟨_, _, _, _, rfl, nv, ?_⟩
        simp only [startA, List.map_cons, List.map_nil, List.length_cons, List.length_nil, List.replicate, List.cons_append, List.nil_append, Nat.reduceAdd, Nat.reduceSub, Nat.zero_add, Nat.sub_self, List.getElem?_cons_zero, List.getElem?_cons_succ, Option.map_some, wRet, wRetN, wSeq, wNext, wDrop, wIfS, wAsg, wgN, wgTup, wgCons, wgNil, wPar, wOr, wAnd, Ab.wNot, wIf, wOp, wUn, wCB, wCons, wNil, wTup, wLst, wLstM, wV, wC, wB, wCh, Ab.wTru, wNotT, wAndT, wOrT, wSl, wNo, wSome, wCall, wIsI, wIsI2, wStrip, wRev, gPop, wDNew, wDNewM, wSlW, gSlW, gAddM, gTimes, itemsA, wML, wYes, gIn, gInS, gIx, gEqv, gLt, gOrd, gAdd, gMinus, gInt, gNeg, gIs, gSl, gLen, gAbs, gTwo, gI1, gApp, gExt, gTupOf, gListOf, gListM, ims, asQ, asT, asL, dat, tru, at0, at1, at2, id_eq, AV.und, keyA, Ab.isNon, wipeS, List.set_cons_zero, List.set_cons_succ, wgSub, gSt, retA, List.take_length, takeSet, takeSet2, List.foldl_cons, List.foldl_nil, List.zip_cons_cons, List.zip_nil_right, keepS_nil, keepS_cons, keepO_none, keepO_im, keepO_wl, List.length_set, List.length_append, List.set_set, true_and, any_pr, snocAt, snocTake, ims_map, ims_mapF, atD, Option.isSome_some, Option.isSome_none, if_true, if_false, Bool.false_eq_true, ite_true, ite_false, gRepr]
        refine ⟨x1, x2, x3, .inr ⟨_, rfl⟩, x1, x2, x3, .inr ⟨_, rfl⟩, ?_⟩
        simp only [decide_true, Bool.not_true, Bool.false_eq_true, if_false]
        refine ⟨r1, r2, r3, .inl nd, ?_⟩
        refine next3 _ _ ⟨_, _, fun y hy => hl y (List.mem_cons_of_mem _ hy), List.take_of_length_le (by simp), by simp only [startA, List.map_cons, List.map_nil, List.length_cons, List.length_nil, List.replicate, List.cons_append, List.nil_append, Nat.reduceAdd, Nat.reduceSub, Nat.zero_add, Nat.sub_self, List.getElem?_cons_zero, List.getElem?_cons_succ, Option.map_some, wRet, wRetN, wSeq, wNext, wDrop, wIfS, wAsg, wgN, wgTup, wgCons, wgNil, wPar, wOr, wAnd, Ab.wNot, wIf, wOp, wUn, wCB, wCons, wNil, wTup, wLst, wLstM, wV, wC, wB, wCh, Ab.wTru, wNotT, wAndT, wOrT, wSl, wNo, wSome, wCall, wIsI, wIsI2, wStrip, wRev, gPop, wDNew, wDNewM, wSlW, gSlW, gAddM, gTimes, itemsA, wML, wYes, gIn, gInS, gIx, gEqv, gLt, gOrd, gAdd, gMinus, gInt, gNeg, gIs, gSl, gLen, gAbs, gTwo, gI1, gApp, gExt, gTupOf, gListOf, gListM, ims, asQ, asT, asL, dat, tru, at0, at1, at2, id_eq, AV.und, keyA, Ab.isNon, wipeS, List.set_cons_zero, List.set_cons_succ, wgSub, gSt, retA, List.take_length, takeSet, takeSet2, List.foldl_cons, List.foldl_nil, List.zip_cons_cons, List.zip_nil_right, keepS_nil, keepS_cons, keepO_none, keepO_im, keepO_wl, List.length_set, List.length_append, List.set_set, true_and, any_pr, snocAt, snocTake, ims_map, ims_mapF, atD, Option.isSome_some, Option.isSome_none, if_true, if_false, Bool.false_eq_true, ite_true, ite_false, keepO_mu (show i < m.length + 5 by omega)] <;> rfl, by simp [keepS]⟩
    · rintro ρ m' ⟨r, o1, _, rfl, rfl, hr8⟩
      obtain ⟨p1, p2, p3, p4, p5, p6, p7, p8, rfl⟩ := len8 hr8
      refine next1 _ _ ⟨cnt2, c, _, by simp only [List.length_nil, Nat.mul_zero, Nat.add_zero] at hcnt2; omega, by rw [takeSet2], hc, by simp only [startA, List.map_cons, List.map_nil, List.length_cons, List.length_nil, List.replicate, List.cons_append, List.nil_append, Nat.reduceAdd, Nat.reduceSub, Nat.zero_add, Nat.sub_self, List.getElem?_cons_zero, List.getElem?_cons_succ, Option.map_some, wRet, wRetN, wSeq, wNext, wDrop, wIfS, wAsg, wgN, wgTup, wgCons, wgNil, wPar, wOr, wAnd, Ab.wNot, wIf, wOp, wUn, wCB, wCons, wNil, wTup, wLst, wLstM, wV, wC, wB, wCh, Ab.wTru, wNotT, wAndT, wOrT, wSl, wNo, wSome, wCall, wIsI, wIsI2, wStrip, wRev, gPop, wDNew, wDNewM, wSlW, gSlW, gAddM, gTimes, itemsA, wML, wYes, gIn, gInS, gIx, gEqv, gLt, gOrd, gAdd, gMinus, gInt, gNeg, gIs, gSl, gLen, gAbs, gTwo, gI1, gApp, gExt, gTupOf, gListOf, gListM, ims, asQ, asT, asL, dat, tru, at0, at1, at2, id_eq, AV.und, keyA, Ab.isNon, wipeS, List.set_cons_zero, List.set_cons_succ, wgSub, gSt, retA, List.take_length, takeSet, takeSet2, List.foldl_cons, List.foldl_nil, List.zip_cons_cons, List.zip_nil_right, keepS_nil, keepS_cons, keepO_none, keepO_im, keepO_wl, List.length_set, List.length_append, List.set_set, true_and, any_pr, snocAt, snocTake, ims_map, ims_mapF, atD, Option.isSome_some, Option.isSome_none, if_true, if_false, Bool.false_eq_true, ite_true, ite_false, keepO_mu hi] <;> rfl, by simp [keepS]⟩
  · first | (simp [rngL]; done) | (simp [rngL]; omega)
end
end K14
end

section
set_option maxRecDepth 100000
set_option maxHeartbeats 2000000
namespace K14
open PySem PySem.Spec PyProof.Rows L2 Gd Ab
abbrev s_law : Stmt := topS 25
theorem sc_law : FnScope ["_law_script", "_law_k"] ["_law_script"] (defScope s_law) := ⟨rfl, rfl, rfl, by decide +kernel, rfl, by decide +kernel, by decide +kernel⟩
section
variable {P : Program} {w : World} {K : PySem.W.Frag} {mg : Str → Option Value} {base : Heap} {t0 : Tok}
theorem sqL_keep {H H' : Hp} {a : Addr} {xs : List V} (h : SqL K H a xs) (k : Kp [] H H') : SqL K H' a xs :=
  h.elim (fun h => .inl (h.elim (fun h => .inl (k _ _ List.not_mem_nil h)) fun ⟨o, h⟩ => .inr ⟨o, k _ _ List.not_mem_nil h⟩)) .inr
def spLaw (K : PySem.W.Frag) : Sp := fun vs H Q _ => ∃ (a : Addr) (ns : List Int), vs = [.ref a] ∧ SqL K H a (ns.map V.int) ∧ ns.length ≤ 63 ∧ ∀ H', Q (.bl true) H'
def spRight : Sp := fun vs H Q _ => ∃ a : Addr, vs = [.ref a] ∧ Deck H a 0 ∧ ∀ H', Kp [a] H H' → Q (.bl true) H'
theorem right_c {k : Nat} (C : Callee P w K mg base CX0 k "_law_right" ["_law_deck_here"] (lift aRight)) : Callee P w K mg base CX0 k "_law_right" ["_law_deck_here"] spRight := C.imp fun vs H Q E h => by
  obtain ⟨a, rfl, ⟨x, y, c, e, h1, h2, h3, h4, h5⟩, q⟩ := h
  refine ⟨[], [a], [.lst [.im (.int x), .im (.int y), .im (.int c)]], [.mu 0], fun d _ => d = .im (.bool true), noE, ⟨by simp, rfl, fun i b c' g1 g2 => ?_, fun b hb => ?_⟩, .cons ⟨Nat.zero_lt_one, a, rfl, rfl⟩ .nil, ⟨0, rfl, ⟨_, rfl, x, y, c, rfl, h1, h2, h3, h4, h5⟩, fun _ => rfl⟩, .no, fun v d M' H' m' x' R' r hd => ?_⟩
  · match i, g1, g2 with
    | 0, g1, g2 => cases g1; cases g2; exact ⟨_, e, .cons (.int _) (.cons (.int _) (.cons (.int _) .nil))⟩
    | i + 1, g1, _ => simp at g1
  · have : b = a := by simpa using hb
    subst this
    exact ⟨_, e⟩
  · subst hd
    cases r
    exact q H' x'.kp
theorem ok_law {f : Addr} {fd : FuncData} (B : Bs mg t0) (F : Fun K "law" "law" s_law f fd) (C_law_deck : Callee P w K mg base CX0 1 "_law_deck" ["_law_script", "_law_k"] (spDeck K)) {R : Nat} (hR : R ≤ 8) (C_law_right : Callee P w K mg base CX0 R "_law_right" ["_law_deck_here"] spRight) :
    FnG P w K mg base CX0 9 f fd ["_law_script"] (spLaw K) := by
  refine okG F sc_law (fun _ _ _ _ ⟨_, _, e, _⟩ => by rw [e]; rfl) fun cdv A outer s H vs Q E hgu hr h => ?_
  obtain ⟨a, ns, rfl, hS, hn, q⟩ := h
  refine ⟨_, (pss_one (ps_ret (pe_callB (cr_all rfl) (by rfl) B.all (by decide +kernel) (pa_cons (pe_lc (own := [("_law_k", 1)])  rfl sc_law.nd (pi_range1 (by rfl) B.range (pa_cons (pe_callB (call_max2 rfl) (by rfl) B.max (by decide +kernel) (pa_cons pe_int (pa_cons (pe_callB (call_min2 rfl) (by rfl) B.min (by decide +kernel) (pa_cons pe_int (pa_cons (pe_callB call_len (by rfl) B.len PySem.boot_len (pa_cons (pv 0) pa_nil)) pa_nil))) pa_nil))) pa_nil)) (blkOk_by (N := ["_law_script", "_law_k"]) (sc := defScope s_law) (by decide +kernel)) (fun _ _ _ _ _ => (pg_name (i := 1) sc_law.nd rfl (.inl rfl))) (fun _ _ _ _ _ => pts_nil) (fun _ _ _ _ _ => (pown C_law_right hgu (hr.mono (by omega)) (by rfl) pass0 (pa_cons (pown C_law_deck hgu (hr.mono (by omega)) (by rfl) pass0 (pa_cons (pv 0) (pa_cons (pv 1) pa_nil))) pa_nil)))) pa_nil)))), ?_⟩
  have bd : ∃ j : Nat, (if (if (ns.length : Int) < 3 then (ns.length : Int) else 3) > 1 then (if (ns.length : Int) < 3 then (ns.length : Int) else 3) else 1) = j ∧ j ≤ 3 := by
    refine ⟨(if (if (ns.length : Int) < 3 then (ns.length : Int) else 3) > 1 then (if (ns.length : Int) < 3 then (ns.length : Int) else 3) else 1).toNat, ?_, ?_⟩
    all_goals
      repeat (split <;> try omega)
  obtain ⟨j, ej, hj⟩ := bd
  refine ⟨.ref a, rfl, .ref a, ns.length, rfl, .inl ⟨_, hS, by simp⟩, 3, ns.length, rfl, 1, _, rfl, _, rfl, ?_⟩
  rw [ej]
  refine ⟨by omega, by omega, fun DD hD => ?_⟩
  refine lc_bools (walk_range (lo := 0) (n := (j : Int).toNat)) (small (by omega)) hD (fun _ => true) (fun _ _ => trivial) (fun i x H4 H5 hi k4 y Kt hk => ?_) fun H4 k4 e4 => ?_
  · obtain ⟨rfl, rfl⟩ := y
    exact ⟨rfl, .ref a, rfl, .int (0 + i), rfl, a, ns, i, by rw [Int.zero_add]; rfl, sqL_keep hS k4, by omega, fun p H6 k6 np dk => ⟨p, rfl, dk, fun H7 k7 => hk H7 (Kp.drop np (k6.same.trans k7))⟩⟩
  · refine ⟨DD, (List.range (j : Int).toNat).map fun _ => true, rfl, .inl (.inl (by rw [List.map_map]; exact e4)), ?_⟩
    have e : (((List.range (j : Int).toNat).map fun _ => true).all id) = true := by simp
    rw [e]
    exact q H4
end
end K14
end

section
set_option maxRecDepth 100000
set_option maxHeartbeats 2000000
namespace K14
open PySem PySem.Spec PyProof.Rows L2 Gd Ab
theorem defd {K : PySem.W.Frag} {mg : Str → Option Value} {h : Heap} {x : Str} {st : Stmt} {f : Addr} {oc : Value} {od an : Option Addr} {osl : Array (Option Value)} {kV doc pm cdv ct : Value} (X : K.In h) (G : h.Ns mainGlobals mg) (a : PySem.W.nsIn K mainGlobals x = some (some (.ref f)))
    (l : K.lookup f = some ⟨oc, od, .func (PySem.W.fnOf x x (defArgs st) (defBody st) (defScope st) .none kV doc pm an cdv ct), osl⟩) (c : PySem.W.codeIn K cdv x = true) (k : PySem.W.keepIn K (.ref f) = true) : Defd K mg x st := ⟨f, _, PySem.W.mg_of X G a, fun_mk (st := st) l c k⟩
theorem all_mk {l : PySem.W.OpenLaw} {w : World} {K : PySem.W.Frag} {h : Heap} {mg : Str → Option Value} {fa f0 f1 f2 f3 f4 f5 f6 f7 f8 f9 f10 f11 f12 f13 f14 f15 f16 f17 f18 f19 f20 f21 : Addr} (X : K.In h) (G : h.Ns mainGlobals mg) (hfa : mg "law" = some (.ref fa)) 
    {od0 an0 od1 an1 od2 an2 od3 an3 od4 an4 od5 an5 od6 an6 od7 an7 od8 an8 od9 an9 od10 an10 od11 an11 od12 an12 od13 an13 od14 an14 od15 an15 od16 an16 od17 an17 od18 an18 od19 an19 od20 an20 od21 an21 : Option Addr} {sl0 sl1 sl2 sl3 sl4 sl5 sl6 sl7 sl8 sl9 sl10 sl11 sl12 sl13 sl14 sl15 sl16 sl17 sl18 sl19 sl20 sl21 : Array (Option Value)} {oc0 kV0 dc0 pm0 cd0 ct0 oc1 kV1 dc1 pm1 cd1 ct1 oc2 kV2 dc2 pm2 cd2 ct2 oc3 kV3 dc3 pm3 cd3 ct3 oc4 kV4 dc4 pm4 cd4 ct4 oc5 kV5 dc5 pm5 cd5 ct5 oc6 kV6 dc6 pm6 cd6 ct6 oc7 kV7 dc7 pm7 cd7 ct7 oc8 kV8 dc8 pm8 cd8 ct8 oc9 kV9 dc9 pm9 cd9 ct9 oc10 kV10 dc10 pm10 cd10 ct10 oc11 kV11 dc11 pm11 cd11 ct11 oc12 kV12 dc12 pm12 cd12 ct12 oc13 kV13 dc13 pm13 cd13 ct13 oc14 kV14 dc14 pm14 cd14 ct14 oc15 kV15 dc15 pm15 cd15 ct15 oc16 kV16 dc16 pm16 cd16 ct16 oc17 kV17 dc17 pm17 cd17 ct17 oc18 kV18 dc18 pm18 cd18 ct18 oc19 kV19 dc19 pm19 cd19 ct19 oc20 kV20 dc20 pm20 cd20 ct20 oc21 kV21 dc21 pm21 cd21 ct21 : Value}
    (a0 : PySem.W.nsIn K mainGlobals "is_integer" = some (some (.ref f0))) (l0 : K.lookup f0 = some ⟨oc0, od0, .func (PySem.W.fnOf "is_integer" "is_integer" (defArgs s_is_integer) (defBody s_is_integer) (defScope s_is_integer) .none kV0 dc0 pm0 an0 cd0 ct0), sl0⟩) (c0 : PySem.W.codeIn K cd0 "is_integer" = true) (k0 : PySem.W.keepIn K (.ref f0) = true)
    (a1 : PySem.W.nsIn K mainGlobals "is_ascending" = some (some (.ref f1))) (l1 : K.lookup f1 = some ⟨oc1, od1, .func (PySem.W.fnOf "is_ascending" "is_ascending" (defArgs s_is_ascending) (defBody s_is_ascending) (defScope s_is_ascending) .none kV1 dc1 pm1 an1 cd1 ct1), sl1⟩) (c1 : PySem.W.codeIn K cd1 "is_ascending" = true) (k1 : PySem.W.keepIn K (.ref f1) = true)
    (a2 : PySem.W.nsIn K mainGlobals "do_talk" = some (some (.ref f2))) (l2 : K.lookup f2 = some ⟨oc2, od2, .func (PySem.W.fnOf "do_talk" "do_talk" (defArgs s_do_talk) (defBody s_do_talk) (defScope s_do_talk) .none kV2 dc2 pm2 an2 cd2 ct2), sl2⟩) (c2 : PySem.W.codeIn K cd2 "do_talk" = true) (k2 : PySem.W.keepIn K (.ref f2) = true)
    (a3 : PySem.W.nsIn K mainGlobals "talk_links" = some (some (.ref f3))) (l3 : K.lookup f3 = some ⟨oc3, od3, .func (PySem.W.fnOf "talk_links" "talk_links" (defArgs s_talk_links) (defBody s_talk_links) (defScope s_talk_links) .none kV3 dc3 pm3 an3 cd3 ct3), sl3⟩) (c3 : PySem.W.codeIn K cd3 "talk_links" = true) (k3 : PySem.W.keepIn K (.ref f3) = true)
    (a4 : PySem.W.nsIn K mainGlobals "talking" = some (some (.ref f4))) (l4 : K.lookup f4 = some ⟨oc4, od4, .func (PySem.W.fnOf "talking" "talking" (defArgs s_talking) (defBody s_talking) (defScope s_talking) .none kV4 dc4 pm4 an4 cd4 ct4), sl4⟩) (c4 : PySem.W.codeIn K cd4 "talking" = true) (k4 : PySem.W.keepIn K (.ref f4) = true)
    (a5 : PySem.W.nsIn K mainGlobals "is_node" = some (some (.ref f5))) (l5 : K.lookup f5 = some ⟨oc5, od5, .func (PySem.W.fnOf "is_node" "is_node" (defArgs s_is_node) (defBody s_is_node) (defScope s_is_node) .none kV5 dc5 pm5 an5 cd5 ct5), sl5⟩) (c5 : PySem.W.codeIn K cd5 "is_node" = true) (k5 : PySem.W.keepIn K (.ref f5) = true)
    (a6 : PySem.W.nsIn K mainGlobals "are_adjacent" = some (some (.ref f6))) (l6 : K.lookup f6 = some ⟨oc6, od6, .func (PySem.W.fnOf "are_adjacent" "are_adjacent" (defArgs s_are_adjacent) (defBody s_are_adjacent) (defScope s_are_adjacent) .none kV6 dc6 pm6 an6 cd6 ct6), sl6⟩) (c6 : PySem.W.codeIn K cd6 "are_adjacent" = true) (k6 : PySem.W.keepIn K (.ref f6) = true)
    (a7 : PySem.W.nsIn K mainGlobals "is_apart" = some (some (.ref f7))) (l7 : K.lookup f7 = some ⟨oc7, od7, .func (PySem.W.fnOf "is_apart" "is_apart" (defArgs s_is_apart) (defBody s_is_apart) (defScope s_is_apart) .none kV7 dc7 pm7 an7 cd7 ct7), sl7⟩) (c7 : PySem.W.codeIn K cd7 "is_apart" = true) (k7 : PySem.W.keepIn K (.ref f7) = true)
    (a8 : PySem.W.nsIn K mainGlobals "_law_deck" = some (some (.ref f8))) (l8 : K.lookup f8 = some ⟨oc8, od8, .func (PySem.W.fnOf "_law_deck" "_law_deck" (defArgs s_deck) (defBody s_deck) (defScope s_deck) .none kV8 dc8 pm8 an8 cd8 ct8), sl8⟩) (c8 : PySem.W.codeIn K cd8 "_law_deck" = true) (k8 : PySem.W.keepIn K (.ref f8) = true)
    (a9 : PySem.W.nsIn K mainGlobals "_law_draw" = some (some (.ref f9))) (l9 : K.lookup f9 = some ⟨oc9, od9, .func (PySem.W.fnOf "_law_draw" "_law_draw" (defArgs s_draw) (defBody s_draw) (defScope s_draw) .none kV9 dc9 pm9 an9 cd9 ct9), sl9⟩) (c9 : PySem.W.codeIn K cd9 "_law_draw" = true) (k9 : PySem.W.keepIn K (.ref f9) = true)
    (a10 : PySem.W.nsIn K mainGlobals "_law_any" = some (some (.ref f10))) (l10 : K.lookup f10 = some ⟨oc10, od10, .func (PySem.W.fnOf "_law_any" "_law_any" (defArgs s_any) (defBody s_any) (defScope s_any) .none kV10 dc10 pm10 an10 cd10 ct10), sl10⟩) (c10 : PySem.W.codeIn K cd10 "_law_any" = true) (k10 : PySem.W.keepIn K (.ref f10) = true)
    (a11 : PySem.W.nsIn K mainGlobals "_law_names" = some (some (.ref f11))) (l11 : K.lookup f11 = some ⟨oc11, od11, .func (PySem.W.fnOf "_law_names" "_law_names" (defArgs s_names) (defBody s_names) (defScope s_names) .none kV11 dc11 pm11 an11 cd11 ct11), sl11⟩) (c11 : PySem.W.codeIn K cd11 "_law_names" = true) (k11 : PySem.W.keepIn K (.ref f11) = true)
    (a12 : PySem.W.nsIn K mainGlobals "_law_network" = some (some (.ref f12))) (l12 : K.lookup f12 = some ⟨oc12, od12, .func (PySem.W.fnOf "_law_network" "_law_network" (defArgs s_network) (defBody s_network) (defScope s_network) .none kV12 dc12 pm12 an12 cd12 ct12), sl12⟩) (c12 : PySem.W.codeIn K cd12 "_law_network" = true) (k12 : PySem.W.keepIn K (.ref f12) = true)
    (a13 : PySem.W.nsIn K mainGlobals "_law_beside" = some (some (.ref f13))) (l13 : K.lookup f13 = some ⟨oc13, od13, .func (PySem.W.fnOf "_law_beside" "_law_beside" (defArgs s_beside) (defBody s_beside) (defScope s_beside) .none kV13 dc13 pm13 an13 cd13 ct13), sl13⟩) (c13 : PySem.W.codeIn K cd13 "_law_beside" = true) (k13 : PySem.W.keepIn K (.ref f13) = true)
    (a14 : PySem.W.nsIn K mainGlobals "_law_odd" = some (some (.ref f14))) (l14 : K.lookup f14 = some ⟨oc14, od14, .func (PySem.W.fnOf "_law_odd" "_law_odd" (defArgs s_odd) (defBody s_odd) (defScope s_odd) .none kV14 dc14 pm14 an14 cd14 ct14), sl14⟩) (c14 : PySem.W.codeIn K cd14 "_law_odd" = true) (k14 : PySem.W.keepIn K (.ref f14) = true)
    (a15 : PySem.W.nsIn K mainGlobals "_law_bent" = some (some (.ref f15))) (l15 : K.lookup f15 = some ⟨oc15, od15, .func (PySem.W.fnOf "_law_bent" "_law_bent" (defArgs s_bent) (defBody s_bent) (defScope s_bent) .none kV15 dc15 pm15 an15 cd15 ct15), sl15⟩) (c15 : PySem.W.codeIn K cd15 "_law_bent" = true) (k15 : PySem.W.keepIn K (.ref f15) = true)
    (a16 : PySem.W.nsIn K mainGlobals "_law_is_number" = some (some (.ref f16))) (l16 : K.lookup f16 = some ⟨oc16, od16, .func (PySem.W.fnOf "_law_is_number" "_law_is_number" (defArgs s_is_number) (defBody s_is_number) (defScope s_is_number) .none kV16 dc16 pm16 an16 cd16 ct16), sl16⟩) (c16 : PySem.W.codeIn K cd16 "_law_is_number" = true) (k16 : PySem.W.keepIn K (.ref f16) = true)
    (a17 : PySem.W.nsIn K mainGlobals "_law_touch" = some (some (.ref f17))) (l17 : K.lookup f17 = some ⟨oc17, od17, .func (PySem.W.fnOf "_law_touch" "_law_touch" (defArgs s_touch) (defBody s_touch) (defScope s_touch) .none kV17 dc17 pm17 an17 cd17 ct17), sl17⟩) (c17 : PySem.W.codeIn K cd17 "_law_touch" = true) (k17 : PySem.W.keepIn K (.ref f17) = true)
    (a18 : PySem.W.nsIn K mainGlobals "_law_due" = some (some (.ref f18))) (l18 : K.lookup f18 = some ⟨oc18, od18, .func (PySem.W.fnOf "_law_due" "_law_due" (defArgs s_due) (defBody s_due) (defScope s_due) .none kV18 dc18 pm18 an18 cd18 ct18), sl18⟩) (c18 : PySem.W.codeIn K cd18 "_law_due" = true) (k18 : PySem.W.keepIn K (.ref f18) = true)
    (a19 : PySem.W.nsIn K mainGlobals "_law_drawn" = some (some (.ref f19))) (l19 : K.lookup f19 = some ⟨oc19, od19, .func (PySem.W.fnOf "_law_drawn" "_law_drawn" (defArgs s_drawn) (defBody s_drawn) (defScope s_drawn) .none kV19 dc19 pm19 an19 cd19 ct19), sl19⟩) (c19 : PySem.W.codeIn K cd19 "_law_drawn" = true) (k19 : PySem.W.keepIn K (.ref f19) = true)
    (a20 : PySem.W.nsIn K mainGlobals "_law_right" = some (some (.ref f20))) (l20 : K.lookup f20 = some ⟨oc20, od20, .func (PySem.W.fnOf "_law_right" "_law_right" (defArgs s_right) (defBody s_right) (defScope s_right) .none kV20 dc20 pm20 an20 cd20 ct20), sl20⟩) (c20 : PySem.W.codeIn K cd20 "_law_right" = true) (k20 : PySem.W.keepIn K (.ref f20) = true)
    (a21 : PySem.W.nsIn K mainGlobals "law" = some (some (.ref f21))) (l21 : K.lookup f21 = some ⟨oc21, od21, .func (PySem.W.fnOf "law" "law" (defArgs s_law) (defBody s_law) (defScope s_law) .none kV21 dc21 pm21 an21 cd21 ct21), sl21⟩) (c21 : PySem.W.codeIn K cd21 "law" = true) (k21 : PySem.W.keepIn K (.ref f21) = true)
    (z0 : PySem.W.nsIn K mainGlobals "set" = some none) (z1 : PySem.W.nsIn K mainGlobals "bool" = some none) (z2 : PySem.W.nsIn K mainGlobals "all" = some none) (z3 : PySem.W.nsIn K mainGlobals "zip" = some none) (z4 : PySem.W.nsIn K mainGlobals "isinstance" = some none) (z5 : PySem.W.nsIn K mainGlobals "str" = some none) (z6 : PySem.W.nsIn K mainGlobals "tuple" = some none) (z7 : PySem.W.nsIn K mainGlobals "int" = some none) (z8 : PySem.W.nsIn K mainGlobals "len" = some none) (z9 : PySem.W.nsIn K mainGlobals "range" = some none) (z10 : PySem.W.nsIn K mainGlobals "enumerate" = some none) (z11 : PySem.W.nsIn K mainGlobals "abs" = some none) (z12 : PySem.W.nsIn K mainGlobals "sorted" = some none) (z13 : PySem.W.nsIn K mainGlobals "list" = some none) (z14 : PySem.W.nsIn K mainGlobals "repr" = some none) (z15 : PySem.W.nsIn K mainGlobals "min" = some none) (z16 : PySem.W.nsIn K mainGlobals "max" = some none) (z17 : PySem.W.nsIn K mainGlobals "any" = some none) (z18 : PySem.W.nsIn K mainGlobals "dict" = some none) (z19 : PySem.W.nsIn K mainGlobals "sum" = some none) (z20 : PySem.W.nsIn K mainGlobals "reversed" = some none)
     :
    ∃ fd : FuncData, (∀ (s : Shared) (v : Value), BindsTo s fd ⟨[v], []⟩ [("_law_script", v)]) ∧ ∀ base : Heap, K.In base → base.Ns mainGlobals mg → FnG l.prog w K mg base CX0 9 fa fd ["_law_script"] (spLaw K) := by
  have e := hfa.symm.trans (PySem.W.mg_of X G a21)
  cases e
  have B : Bs mg 0 := ⟨PySem.W.mg_none_of X G z0, PySem.W.mg_none_of X G z1, PySem.W.mg_none_of X G z2, PySem.W.mg_none_of X G z3, PySem.W.mg_none_of X G z4, PySem.W.mg_none_of X G z5, PySem.W.mg_none_of X G z6, PySem.W.mg_none_of X G z7, PySem.W.mg_none_of X G z8, PySem.W.mg_none_of X G z9, PySem.W.mg_none_of X G z10, PySem.W.mg_none_of X G z11, PySem.W.mg_none_of X G z12, PySem.W.mg_none_of X G z13, PySem.W.mg_none_of X G z14, PySem.W.mg_none_of X G z15, PySem.W.mg_none_of X G z16, PySem.W.mg_none_of X G z17, PySem.W.mg_none_of X G z18, PySem.W.mg_none_of X G z19, PySem.W.mg_none_of X G z20⟩
  have Dis_integer := defd X G a0 l0 c0 k0
  have Dis_ascending := defd X G a1 l1 c1 k1
  have Ddo_talk := defd X G a2 l2 c2 k2
  have Dtalk_links := defd X G a3 l3 c3 k3
  have Dtalking := defd X G a4 l4 c4 k4
  have Dis_node := defd X G a5 l5 c5 k5
  have Dare_adjacent := defd X G a6 l6 c6 k6
  have Dis_apart := defd X G a7 l7 c7 k7
  have D_law_deck := defd X G a8 l8 c8 k8
  have D_law_draw := defd X G a9 l9 c9 k9
  have D_law_any := defd X G a10 l10 c10 k10
  have D_law_names := defd X G a11 l11 c11 k11
  have D_law_network := defd X G a12 l12 c12 k12
  have D_law_beside := defd X G a13 l13 c13 k13
  have D_law_odd := defd X G a14 l14 c14 k14
  have D_law_bent := defd X G a15 l15 c15 k15
  have D_law_is_number := defd X G a16 l16 c16 k16
  have D_law_touch := defd X G a17 l17 c17 k17
  have D_law_due := defd X G a18 l18 c18 k18
  have D_law_drawn := defd X G a19 l19 c19 k19
  have D_law_right := defd X G a20 l20 c20 k20
  refine ⟨PySem.W.fnOf "law" "law" (defArgs s_law) (defBody s_law) (defScope s_law) .none kV21 dc21 pm21 an21 cd21 ct21, fun s v => .of_eq rfl, fun base _ _ => ?_⟩
  have c_int := ok_is_integer (P := l.prog) (w := w) (base := base) B Dis_integer
  have c_asc := ok_is_ascending (P := l.prog) (w := w) (base := base) B Dis_ascending
  have c_do_talk := ok_do_talk (P := l.prog) (w := w) (base := base) B Ddo_talk
  have c_links := ok_talk_links B Dtalk_links c_do_talk
  have c_talking := ok_talking B Dtalking c_links
  have c_node := ok_is_node B Dis_node c_int
  have c_adj := ok_are_adjacent B Dare_adjacent c_do_talk
  have c_apart := ok_is_apart B Dis_apart c_talking c_node c_asc c_adj
  have c_deck := ok_deck (P := l.prog) (w := w) (base := base) B D_law_deck
  have c_draw0 := ok_draw (P := l.prog) (w := w) (base := base) B D_law_draw
  have c_draw := draw_a c_draw0
  have c_any := ok_any B D_law_any c_draw
  have c_names := ok_names B D_law_names c_draw c_any
  have c_net := ok_network B D_law_network c_draw c_any c_names
  have c_beside := ok_beside (P := l.prog) (w := w) (base := base) B D_law_beside
  have c_odd := ok_odd B D_law_odd (ok_anyO B D_law_any c_draw0)
  have c_bent := bent_l (ok_bent B D_law_bent c_draw0 c_odd 2)
  have c_number := ok_is_number (P := l.prog) (w := w) (base := base) B D_law_is_number
  have c_touch := ok_touch (P := l.prog) (w := w) (base := base) B D_law_touch
  have c_due := ok_due B D_law_due c_beside c_number c_touch
  have c_drawn := ok_drawn B D_law_drawn c_draw c_any c_beside c_touch
  have c_right := right_c (ok_right B D_law_right c_draw c_any c_net c_drawn c_bent c_due c_apart)
  exact ok_law B (fun_mk (st := s_law) l21 c21 k21) c_deck (by omega) c_right
end K14
end

section
set_option maxRecDepth 100000
open PySem PySem.W PyProof.Rows
set_option maxHeartbeats 0 in
theorem PySem.Challenge.cw_gridupgrade_k14_apart_sets_of_any_value_holds : PySem.Challenge.rw_gridupgrade_k14_apart_sets_of_any_value.Holds := by
  w_on; o_law; k_head; (case hw => w_witness2)
  k_fill
  refine Gd.walkG (l := PySem.Challenge.rw_gridupgrade_k14_apart_sets_of_any_value) (n := 63) (k := 9) (x := "_law_script") (sp := K14.spLaw) rfl (by decide) rfl ⟨rfl, by decide, by decide⟩ (fun w h Y => PySem.W.kIn_of Y) ?F (fun _ _ a ns hl _ hS => ⟨a, ns, rfl, hS, hl, fun _ => rfl⟩)
  case F =>
    intro w mg fa h KX G hmg
    refine' K14.all_mk KX G hmg ?a0 ?l0 ?c0 ?k0 ?a1 ?l1 ?c1 ?k1 ?a2 ?l2 ?c2 ?k2 ?a3 ?l3 ?c3 ?k3 ?a4 ?l4 ?c4 ?k4 ?a5 ?l5 ?c5 ?k5 ?a6 ?l6 ?c6 ?k6 ?a7 ?l7 ?c7 ?k7 ?a8 ?l8 ?c8 ?k8 ?a9 ?l9 ?c9 ?k9 ?a10 ?l10 ?c10 ?k10 ?a11 ?l11 ?c11 ?k11 ?a12 ?l12 ?c12 ?k12 ?a13 ?l13 ?c13 ?k13 ?a14 ?l14 ?c14 ?k14 ?a15 ?l15 ?c15 ?k15 ?a16 ?l16 ?c16 ?k16 ?a17 ?l17 ?c17 ?k17 ?a18 ?l18 ?c18 ?k18 ?a19 ?l19 ?c19 ?k19 ?a20 ?l20 ?c20 ?k20 ?a21 ?l21 ?c21 ?k21 ?z0 ?z1 ?z2 ?z3 ?z4 ?z5 ?z6 ?z7 ?z8 ?z9 ?z10 ?z11 ?z12 ?z13 ?z14 ?z15 ?z16 ?z17 ?z18 ?z19 ?z20
    (case a0 => k_is)
    (case l0 => k_is)
    (case c0 => k_is)
    (case k0 => k_is)
    (case a1 => k_is)
    (case l1 => k_is)
    (case c1 => k_is)
    (case k1 => k_is)
    (case a2 => k_is)
    (case l2 => k_is)
    (case c2 => k_is)
    (case k2 => k_is)
    (case a3 => k_is)
    (case l3 => k_is)
    (case c3 => k_is)
    (case k3 => k_is)
    (case a4 => k_is)
    (case l4 => k_is)
    (case c4 => k_is)
    (case k4 => k_is)
    (case a5 => k_is)
    (case l5 => k_is)
    (case c5 => k_is)
    (case k5 => k_is)
    (case a6 => k_is)
    (case l6 => k_is)
    (case c6 => k_is)
    (case k6 => k_is)
    (case a7 => k_is)
    (case l7 => k_is)
    (case c7 => k_is)
    (case k7 => k_is)
    (case a8 => k_is)
    (case l8 => k_is)
    (case c8 => k_is)
    (case k8 => k_is)
    (case a9 => k_is)
    (case l9 => k_is)
    (case c9 => k_is)
    (case k9 => k_is)
    (case a10 => k_is)
    (case l10 => k_is)
    (case c10 => k_is)
    (case k10 => k_is)
    (case a11 => k_is)
    (case l11 => k_is)
    (case c11 => k_is)
    (case k11 => k_is)
    (case a12 => k_is)
    (case l12 => k_is)
    (case c12 => k_is)
    (case k12 => k_is)
    (case a13 => k_is)
    (case l13 => k_is)
    (case c13 => k_is)
    (case k13 => k_is)
    (case a14 => k_is)
    (case l14 => k_is)
    (case c14 => k_is)
    (case k14 => k_is)
    (case a15 => k_is)
    (case l15 => k_is)
    (case c15 => k_is)
    (case k15 => k_is)
    (case a16 => k_is)
    (case l16 => k_is)
    (case c16 => k_is)
    (case k16 => k_is)
    (case a17 => k_is)
    (case l17 => k_is)
    (case c17 => k_is)
    (case k17 => k_is)
    (case a18 => k_is)
    (case l18 => k_is)
    (case c18 => k_is)
    (case k18 => k_is)
    (case a19 => k_is)
    (case l19 => k_is)
    (case c19 => k_is)
    (case k19 => k_is)
    (case a20 => k_is)
    (case l20 => k_is)
    (case c20 => k_is)
    (case k20 => k_is)
    (case a21 => k_is)
    (case l21 => k_is)
    (case c21 => k_is)
    (case k21 => k_is)
    (case z0 => k_is)
    (case z1 => k_is)
    (case z2 => k_is)
    (case z3 => k_is)
    (case z4 => k_is)
    (case z5 => k_is)
    (case z6 => k_is)
    (case z7 => k_is)
    (case z8 => k_is)
    (case z9 => k_is)
    (case z10 => k_is)
    (case z11 => k_is)
    (case z12 => k_is)
    (case z13 => k_is)
    (case z14 => k_is)
    (case z15 => k_is)
    (case z16 => k_is)
    (case z17 => k_is)
    (case z18 => k_is)
    (case z19 => k_is)
    (case z20 => k_is)
end

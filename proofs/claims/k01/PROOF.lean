import PyProof.Rows.All
import Wide.All
import OpenK.AllK
import Wide.FinOn
import HandS.ForMost
import HandS.ForExc
import HandS.IsInst
import HandS.Zip
import HandS.TupAny
import KE.LtData
import KE.DataEq
import PyProof.ReprRoads
import HandS.Text
import HandS.Walk
import HandS.FStrTup
import HandS.Iter
import HandS.Style
import PyProof.TupleOfStr
import PyProof.EnumMake
import PyProof.Draws
import HandS.Conv
import KE.SortData
import HandS.SetFor
import HandS.Strs
import PyProof.Rows.SetFrom
import PyProof.NeKinds
import PyProof.StrBlock2
import PySem.Challenge.RW_gridupgrade_k01_catalogs_of_any_value
set_option Elab.async false
set_option linter.all false
section
set_option maxRecDepth 100000
/-! A def's promise that holds where no repr is under way (the guards of the surroundings are known and empty). -/
namespace Gd
open PySem PySem.Spec PyProof.Rows L2
structure FnG (P : Program) (w : World) (K : PySem.W.Frag) (mg : Str → Option Value) (base : Heap) (CX : CXT) (k : Nat) (f : Addr) (fd : FuncData) (ps : List Str) (sp : Sp) : Prop where
  len : ∀ vs H Q E, sp vs H Q E → vs.length = ps.length
  run : ∀ (A : Around) (outer : List Env) (s : Shared) (H : Hp) (ar : Args) (us : List Value) (vs : List V) (Q : VK) (E : XK), A.guards = some [] → Room k A →
    Env0 P w K mg base A outer s H → BindsTo s fd ar (ps.zip us) → Vals vs us → sp vs H Q E → codeAny (model P w) A (.call (.ref f) ar) (CR CX outer P w H s Q E) s
section
variable {P : Program} {w : World} {K : PySem.W.Frag} {mg : Str → Option Value} {base : Heap} {CX : CXT} {j k : Nat} {f : Addr} {fd : FuncData} {ps : List Str} {sp sp' : Sp}
theorem FnG.of (F : FnOk P w K mg base CX k f fd ps sp) : FnG P w K mg base CX k f fd ps sp :=
  ⟨F.len, fun A o s H ar us vs Q E _ => F.run A o s H ar us vs Q E⟩
theorem FnG.mono (F : FnG P w K mg base CX j f fd ps sp) (h : j ≤ k) : FnG P w K mg base CX k f fd ps sp :=
  ⟨F.len, fun A o s H ar us vs Q E hg hr => F.run A o s H ar us vs Q E hg (hr.mono h)⟩
theorem FnG.imp (F : FnG P w K mg base CX k f fd ps sp) (h : ∀ vs H Q E, sp' vs H Q E → sp vs H Q E) : FnG P w K mg base CX k f fd ps sp' :=
  ⟨fun vs H Q E q => F.len vs H Q E (h _ _ _ _ q), fun A o s H ar us vs Q E hg hr he hb hv q => F.run A o s H ar us vs Q E hg hr he hb hv (h _ _ _ _ q)⟩
end
/-- from what a call's end says to the code's end -/
theorem ended {X : Cx} {CX : CXT} {E : XK} {Q : VK} {pins : List (Addr × Obj)} {σ : L2.St} {H : Hp} {s s' : Shared} (hx : Passes CX X E) (I : Inv X pins σ H s) :
    ∀ r : Result, CR CX X.stack X.prog X.w H s Q E r s' → (match r with | .ok (.ret u) => EP X pins σ Q u s' | .ok _ => False | .error e => X.xe e s')
  | .error e, q => hx pins σ H s e s' I q
  | .ok (.ret _), q => I.after q
  | .ok .next, q => q
  | .ok .brk, q => q
  | .ok .cont, q => q
section
variable {X : Cx} {CX : CXT} {k : Nat} {f : Addr} {fd : FuncData} {ps ks : List Str} {sp : Sp} {dvs : List V} {ds : List Value} {E : XK} {x : Str} {p pos : Pos} {e : Expr} {es : List Expr} {t tk : TA} {kws : List Keyword} {g : List Value → List Value → List Value} {gV : List V → List V → List V}
theorem runG {pins : List (Addr × Obj)} {σ : L2.St} {H : Hp} {s : Shared} {Q : VK} {us : List Value} {vs : List V} (F : FnG X.prog X.w X.K X.mg X.base CX k f fd ps sp) (hgu : X.A.guards = some []) (hr : Room k X.A) (hb : Binds X.K fd ps ds)
    (hd : Vals dvs ds) (hx : Passes CX X E) (I : Inv X pins σ H s) (r : Vals vs us) (h : sp (vs ++ dvs) H Q E) : wpAny (model X.prog X.w) X.A (call (.ref f) us) (EP X pins σ Q) X.xe s := by
  have both := r.append hd
  have many : (us ++ ds).length = ps.length := both.length ▸ F.len _ _ _ _ h
  refine wpAny_call (codeAny_mono (F.run X.A X.stack s H _ _ _ Q E hgu hr I.env0 (hb s us I.kIn many) both h) fun z s' q => ?_)
  exact ended hx I z q
theorem runGK {pins : List (Addr × Obj)} {σ : L2.St} {H : Hp} {s : Shared} {Q : VK} {us ws : List Value} {vs zs : List V} (F : FnG X.prog X.w X.K X.mg X.base CX k f fd ps sp) (hgu : X.A.guards = some []) (hr : Room k X.A) (hb : KBinds X.K fd ps ks g gV)
    (hx : Passes CX X E) (I : Inv X pins σ H s) (r : Vals vs us) (rz : Vals zs ws) (h : sp (gV vs zs) H Q E) : wpAny (model X.prog X.w) X.A (call (.ref f) us (ks.zip ws)) (EP X pins σ Q) X.xe s := by
  have both := hb.rel r rz
  have many : (g us ws).length = ps.length := both.length ▸ F.len _ _ _ _ h
  refine wpAny_call (codeAny_mono (F.run X.A X.stack s H _ _ _ Q E hgu hr I.env0 (hb.to s us ws I.kIn many) both h) fun z s' q => ?_)
  exact ended hx I z q
/-- f(e, ..) -/
theorem pcall (F : FnG X.prog X.w X.K X.mg X.base CX k f fd ps sp) (hgu : X.A.guards = some []) (hr : Room k X.A) (hg : Gl X x) (hm : X.mg x = some (.ref f)) (hk : PySem.W.keepIn X.K (.ref f) = true)
    (hb : Binds X.K fd ps ds) (hd : Vals dvs ds) (hx : Passes CX X E) (ha : PA X (e :: es) t) (hdb : (x == ("__debug__" : Str)) = false := by decide)
    (he : starEach (e :: es) X.env = (false, eval e X.env) :: starEach es X.env := by rfl) (hpl : (backTo pos (starEach es X.env)).any (·.1) = false := by rfl) :
    PE X (.Call (.Name x p) (e :: es) [] pos) (tCall sp dvs E t) :=
  ⟨fun pins s σ H Q I h => wpAny_Call_Name_kw (ld_glob I hg hm (PySem.W.callWith_K (h₀ := X.base) I.ok.mod.kin hk
    (thn (ha.run pos pins s σ H _ I h) fun us s1 ⟨vs, H1, I1, r, q⟩ => ⟨I1.kIn, runG F hgu hr hb hd hx I1 r q⟩) he hpl) hdb)⟩
/-- f() -/
theorem pcall0 (F : FnG X.prog X.w X.K X.mg X.base CX k f fd ps sp) (hgu : X.A.guards = some []) (hr : Room k X.A) (hg : Gl X x) (hm : X.mg x = some (.ref f)) (hk : PySem.W.keepIn X.K (.ref f) = true)
    (hb : Binds X.K fd ps ds) (hd : Vals dvs ds) (hx : Passes CX X E) (hdb : (x == ("__debug__" : Str)) = false := by decide) : PE X (.Call (.Name x p) [] [] pos) (tCall sp dvs E tNil) :=
  ⟨fun pins s σ H Q I h => wpAny_Call_Name_kw (ld_glob I hg hm (PySem.W.callWith_K0 I.kIn hk (runG (us := []) F hgu hr hb hd hx I .nil h)) hdb)⟩
end
/-! ### a def by its body -/
section
variable {P : Program} {w : World} {K : PySem.W.Frag} {mg : Str → Option Value} {base : Heap} {CX : CXT} {k : Nat} {f : Addr} {N ps : List Str} {sp : Sp}
theorem fn_ofG {name qual : Str} {params : Arguments} {body : List Stmt} {scope : Scope} {dV kV doc pm cdv ct oc : Value} {an od : Option Addr} {osl : Array (Option Value)}
    (lk : K.lookup f = some ⟨oc, od, .func (PySem.W.fnOf name qual params body scope dV kV doc pm an cdv ct), osl⟩) (hcd : PySem.W.codeIn K cdv qual = true) (S : FnScope N ps scope) (len : ∀ vs H Q E, sp vs H Q E → vs.length = ps.length)
    (hbody : ∀ (A : Around) (outer : List Env) (s : Shared) (H : Hp) (vs : List V) (Q : VK) (E : XK), A.guards = some [] → Room k (A.deeper (envOfC qual scope s.heap.objs.size f cdv)) → sp vs H Q E →
      ∃ t, PSs (cxOf CX P w K mg base N qual scope f cdv A outer s H E) body t ∧ t { nx := fun _ H' => Q .non H', rt := Q } (start N vs) H) :
    FnG P w K mg base CX (k + 1) f (PySem.W.fnOf name qual params body scope dV kV doc pm an cdv ct) ps sp := by
  refine ⟨len, fun A outer s H ar us vs Q E hgu room e0 hb r hsp => ?_⟩
  have stand := fun b o e => (e0.bs b o e).1
  have kx : K.In s.heap := e0.mod.kin.keeps stand
  refine codeAny_call_function room.depth (kx _ _ lk) rfl S.co S.gen rfl (PySem.W.codeRec_of kx hcd) (hb _ _ _ _ (wpAny_newFunctionEnv_cells S.kind (fun ⟨n, v⟩ hy => ?_) fun env he s1 x => ?_))
  · exact (S.par n (List.of_mem_zip hy).1).imp id fun q => ⟨q, PySem.W.cellsFrom_some _ _ _ (.inl q)⟩
  subst he
  refine ⟨(e0.mod.nolimit.keeps stand).keeps x.toInCall.keep, codeAny_func ?_⟩
  obtain ⟨t, ht, hq⟩ := hbody A outer s H vs Q E hgu (room.deeper _) hsp
  have I : Inv (cxOf CX P w K mg base N qual scope f cdv A outer s H E) [] (start N vs) H s1 := inv_start S room.hd e0 (len _ _ _ _ hsp) r x
  refine wpAny_mono (ht.run [] s1 (start N vs) H _ I hq) (fun fl s' hs => ?_) fun _ _ z => z
  cases fl with
  | ret u => exact let ⟨v, _, H', J, rv, q⟩ := hs; ⟨v, H', J.os, J.bare, J.base, J.hok, rv, q⟩
  | next => exact let ⟨_, H', J, q⟩ := hs; ⟨V.non, H', J.os, J.bare, J.base, J.hok, rfl, q⟩
  | brk => exact let ⟨_, _, _, q⟩ := hs; q.elim
  | cont => exact let ⟨_, _, _, q⟩ := hs; q.elim
variable {x qual : Str} {st : Stmt} {fd : FuncData}
/-- a def that lets no exception out -/
theorem okG (F : Fun K x qual st f fd) (S : FnScope N ps (defScope st)) (len : ∀ vs H Q E, sp vs H Q E → vs.length = ps.length)
    (hbody : ∀ (cdv : Value) (A : Around) (outer : List Env) (s : Shared) (H : Hp) (vs : List V) (Q : VK) (E : XK), A.guards = some [] → Room k (A.deeper (envOfC qual (defScope st) s.heap.objs.size f cdv)) → sp vs H Q E →
      ∃ t, PSs (cxOf CX0 P w K mg base N qual (defScope st) f cdv A outer s H E).nox (defBody st) t ∧ t { nx := fun _ H' => Q .non H', rt := Q } (start N vs) H) : FnG P w K mg base CX0 (k + 1) f fd ps sp := by
  obtain ⟨_, _, _, _, _, _, cdv, _, _, rfl, lk, hcd⟩ := F.ex
  exact fn_ofG lk hcd S len fun A outer s H vs Q E hgu room h => let ⟨t, h1, h2⟩ := hbody cdv A outer s H vs Q E hgu room h; ⟨t, h1.nox, h2⟩
/-- a def that may raise -/
theorem okGX (F : Fun K x qual st f fd) (S : FnScope N ps (defScope st)) (len : ∀ vs H Q E, sp vs H Q E → vs.length = ps.length)
    (hbody : ∀ (cdv : Value) (A : Around) (outer : List Env) (s : Shared) (H : Hp) (vs : List V) (Q : VK) (E : XK), A.guards = some [] → Room k (A.deeper (envOfC qual (defScope st) s.heap.objs.size f cdv)) → sp vs H Q E →
      ∃ t, PSs (cxOf (L2.CX P w) P w K mg base N qual (defScope st) f cdv A outer s H E) (defBody st) t ∧ t { nx := fun _ H' => Q .non H', rt := Q } (start N vs) H) : FnG P w K mg base (L2.CX P w) (k + 1) f fd ps sp := by
  obtain ⟨_, _, _, _, _, _, cdv, _, _, rfl, lk, hcd⟩ := F.ex
  exact fn_ofG lk hcd S len fun A outer s H vs Q E => hbody cdv A outer s H vs Q E
end
end Gd
end

section
set_option maxRecDepth 100000
namespace Gd
open PySem PySem.Spec PyProof.Rows L2
section
variable {P : Program} {w : World} {K : PySem.W.Frag} {mg mb : Str → Option Value} {k : Nat} {fa a : Addr} {fd : FuncData} {x : Str} {sp : Sp} {t : Shared} {vs : List Value} {ns : List Int}
/-- the law's own call from a heap in which at most the script is tracked -/
theorem core (KX : K.In t.heap) (hns : t.heap.Ns mainGlobals mg) (hb : t.heap.Ns builtinsNs mb) (hbb : ∀ x : Str, x ≠ "__name__" → mb x = bootBuiltins x) (hlim : t.heap.NoLimit) (hg : t.gens = #[])
    (ha : t.heap.get? a = some { cls := .type "list", data := .seq vs.toArray }) (hr : Room k callerA)
    (F : ∀ base : Heap, K.In base → base.Ns mainGlobals mg → FnG P w K mg base CX0 k fa fd [x] sp) (hbind : ∀ (s : Shared) (u : Value), BindsTo s fd ⟨[u], []⟩ [(x, u)])
    (H : Hp) (only : Only H) (ok : HOk P w H t.heap) (one : ∀ b, H b ≠ none → b = a) (apart : H a ≠ none → K.lookup a = none) (hsp : sp [.ref a] H (fun v _ => v = .bl true) fun _ _ _ => False) :
    codeAny (model P w) callerA (.call (.ref fa) ⟨[.ref a], []⟩) (fun r s' => r = .ok (.ret (.bool true)) ∧ OldK t.heap s'.heap ∧ s'.os = t.os ∧ AllBare s'.gens) t := by
  have out : ∀ {b : Addr}, b ≠ a → H b = none := fun {b} ne => Classical.byContradiction fun z => ne (one b z)
  have dictOut : ∀ {b : Addr} {o : Obj} {es : Array DictEntry} {ep : Nat}, t.heap.get? b = some o → o.data = .dict es ep → H b = none := fun {b o es ep} e d => out fun z => by
    subst z
    rw [ha] at e
    cases e
    exact nomatch d
  have ns' : ∀ {b : Addr} {m : Str → Option Value}, t.heap.Ns b m → (hidT t.heap H).Ns b m := fun ⟨o, es, ep, e, d, r⟩ => ⟨o, es, ep, hidT_get e (dictOut e d), d, r⟩
  have kin : K.In (hidT t.heap H) := fun b o e => hidT_get (KX b o e) (Classical.byContradiction fun z => by
    have same := one b z
    subst same
    have none := apart z
    rw [none] at e
    cases e)
  have md : Mod K mg (hidT t.heap H) := ⟨kin, ns' hns, ⟨mb, ns' hb, hbb⟩, let ⟨mc, h1, h2⟩ := hlim; ⟨mc, ns' h1, h2⟩⟩
  have env : Env0 P w K mg (hidT t.heap H) callerA [] t H := ⟨rfl, md, fun b o e => of_hidT e, Nat.le_of_eq (hidT_size _ _), trivial, fun b z => (List.not_mem_nil z).elim, ok, .of_eq hg⟩
  refine codeAny_mono ((F _ kin (ns' hns)).run callerA [] t H _ [.ref a] [.ref a] _ _ rfl hr env (hbind t _) (.cons rfl .nil) hsp) fun r s' h => ?_
  match r, h with
  | .ok (.ret u), ⟨v, H', os, bare, un, ok', rel, q⟩ =>
    have q : v = .bl true := q
    subst q
    obtain rfl : u = Value.bool true := rel
    refine ⟨rfl, OldK.of_keep fun b o e => ?_, os, bare⟩
    cases c : H b with
    | none => exact un.keep b o e c List.not_mem_nil List.not_mem_nil
    | some z =>
      obtain z2 | ⟨ob, xs, z2⟩ := only b
      · rw [z2] at c; cases c
      · have one := (ok b _ z2).1
        rw [e] at one
        cases one
        exact (ok' b _ (un.frzs b _ _ z2)).1
theorem lawG (KX : K.In t.heap) (hns : t.heap.Ns mainGlobals mg) (hb : t.heap.Ns builtinsNs mb) (hbb : ∀ x : Str, x ≠ "__name__" → mb x = bootBuiltins x) (hlim : t.heap.NoLimit) (hg : t.gens = #[])
    (ha : t.heap.get? a = some { cls := .type "list", data := .seq vs.toArray }) (hi : IntsAre vs ns) (hl : ns.length ≤ sizeLine) (hr : Room k callerA)
    (F : ∀ base : Heap, K.In base → base.Ns mainGlobals mg → FnG P w K mg base CX0 k fa fd [x] sp) (hbind : ∀ (s : Shared) (u : Value), BindsTo s fd ⟨[u], []⟩ [(x, u)])
    (hsp : ∀ H : Hp, Only H → SqL K H a (ns.map V.int) → sp [.ref a] H (fun v _ => v = .bl true) fun _ _ _ => False) :
    codeAny (model P w) callerA (.call (.ref fa) ⟨[.ref a], []⟩) (fun r s' => r = .ok (.ret (.bool true)) ∧ OldK t.heap s'.heap ∧ s'.os = t.os ∧ AllBare s'.gens) t := by
  have rv := vals_ints hi
  have many := hi.length
  by_cases known : ∃ o, K.lookup a = some o
  · -- the script is one of the module's own objects: nothing is tracked
    obtain ⟨o, known⟩ := known
    have e := KX a o known
    rw [ha] at e
    cases e
    have sq : SqL K (fun _ => none) a (ns.map V.int) := .inr ⟨_, vs.toArray, _, known, rfl, rfl, rfl, by rw [List.size_toArray, many]; exact hl, by simpa using rv⟩
    exact core KX hns hb hbb hlim hg ha hr F hbind (fun _ => none) (fun _ => .inl rfl) (fun _ _ z => nomatch z) (fun _ z => absurd rfl z) (fun z => absurd rfl z) (hsp _ (fun _ => .inl rfl) sq)
  · have free : K.lookup a = none := by
      cases c : K.lookup a with
      | none => rfl
      | some o => exact absurd ⟨o, c⟩ known
    let T : Hp := upd (fun _ => none) a (.frz { cls := .type "list", data := .seq vs.toArray } (.lst (ns.map V.int)))
    have only : Only T := fun b => by
      by_cases c : b = a
      · subst c; exact .inr ⟨_, _, upd_same⟩
      · exact .inl (upd_ne c)
    refine core KX hns hb hbb hlim hg ha hr F hbind T only (fun b u z => ?_) (fun b z => Classical.byContradiction fun c => z (upd_ne c)) (fun _ => free) (hsp T only (.inl (.inr ⟨_, upd_same⟩)))
    by_cases c : b = a
    · subst c
      have z2 : T b = _ := upd_same
      rw [z2] at z
      cases z
      exact ⟨ha, by rw [List.length_map]; exact hl, vs, _, rv, ha⟩
    · have z2 : T b = none := upd_ne c
      rw [z2] at z
      cases z
end
theorem walkG {l : PySem.W.OpenLaw} {n k : Nat} {q : Program} {loose : List Str} {XP : (Str → Option Value) → Heap → Prop} {YP : World → Heap → Prop} {d : DefRec} {K : Params → PySem.W.Frag} {sp : PySem.W.Frag → Sp} {x : Str}
    (most : l.most = some n) (small : n ≤ sizeLine) (plain : d.params.defaults = []) (room : Room k callerA) (hY : ∀ (w : World) (h : Heap), YP w h → (K w.params).In h)
    (F : ∀ (w : World) (mg : Str → Option Value) (fa : Addr) (h : Heap), (K w.params).In h → h.Ns mainGlobals mg → mg d.name = some (.ref fa) →
      ∃ fd : FuncData, (∀ (s : Shared) (u : Value), BindsTo s fd ⟨[u], []⟩ [(x, u)]) ∧
        ∀ base : Heap, (K w.params).In base → base.Ns mainGlobals mg → FnG l.prog w (K w.params) mg base CX0 k fa fd [x] (sp (K w.params)))
    (hsp : ∀ (K : PySem.W.Frag) (H : Hp) (a : Addr) (ns : List Int), ns.length ≤ n → Only H → SqL K H a (ns.map V.int) → sp K [.ref a] H (fun v _ => v = .bl true) fun _ _ _ => False) :
    PySem.W.WalkO q loose XP YP l.row.toRowW d [] (fun f vs => PySem.call f vs) :=
  Att.attach_call most plain fun w s₀ s₁ mg mb fa o pm cd doc a vs ns G Y ho hd hcd hmg hobj hints hlen hg =>
    let KX := hY w _ Y
    let ⟨_, hb, hF⟩ := F w mg fa _ KX G.T.g hmg
    lawG KX G.T.g G.T.b G.T.builtins G.T.nolimit hg hobj hints (Nat.le_trans hlen small) room hF hb fun H hO hS => hsp (K w.params) H a ns hlen hO hS
end Gd
end

section
set_option maxRecDepth 100000
set_option maxHeartbeats 2000000
/-! Data that lie in the abstract heap: what a value reads as, whatever grows beside it. M: the addresses of lists that may still change. -/
namespace Gd
open PySem PySem.Spec PyProof.Rows L2
def keyD : Key → PyData
  | .inl i => .int i
  | .inr x => .str x
mutual
inductive Rep (M : List Addr) (H : Hp) : V → PyData → Prop
  | non : Rep M H .non .none
  | bl (b : Bool) : Rep M H (.bl b) (.bool b)
  | int (i : Int) : Rep M H (.int i) (.int i)
  | str (x : Str) : Rep M H (.str x) (.str x)
  | tup {a : Addr} {vs : List V} {ds : List PyData} : a ∉ M → H a = some (.tup vs) → Reps M H vs ds → Rep M H (.ref a) (.tuple ds)
  | lst {a : Addr} {vs : List V} {ds : List PyData} : a ∉ M → a ≠ sysModules → H a = some (.lst vs) → Reps M H vs ds → Rep M H (.ref a) (.list ds)
  | emp {a : Addr} : a ∉ M → H a = some (.dK []) → Rep M H (.ref a) (.dict [])
inductive Reps (M : List Addr) (H : Hp) : List V → List PyData → Prop
  | nil : Reps M H [] []
  | cons {v : V} {vs : List V} {d : PyData} {ds : List PyData} : Rep M H v d → Reps M H vs ds → Reps M H (v :: vs) (d :: ds)
end
/-- all but what stands at M is kept -/
def Kp (M : List Addr) (H H' : Hp) : Prop := ∀ b o, b ∉ M → H b = some o → H' b = some o
/-- what stands at M is there -/
def Live (M : List Addr) (H : Hp) : Prop := ∀ b ∈ M, ∃ o, H b = some o
theorem Kp.refl {M : List Addr} {H : Hp} : Kp M H H := fun _ _ _ e => e
theorem Kp.trans {M : List Addr} {H H1 H2 : Hp} (a : Kp M H H1) (b : Kp M H1 H2) : Kp M H H2 := fun c o hc e => b c o hc (a c o hc e)
theorem Kp.new {M : List Addr} {H : Hp} {p : Addr} {o : HO} (h : H p = none) : Kp M H (upd H p o) := fun b x _ e => by rw [upd_ne (ne_of_none e h)]; exact e
theorem Kp.more {M M' : List Addr} {H H' : Hp} (h : ∀ b ∈ M, b ∈ M') (k : Kp M H H') : Kp M' H H' := fun b o hb e => k b o (fun z => hb (h b z)) e
theorem Kp.same {H H' : Hp} (k : Kp [] H H') {M : List Addr} : Kp M H H' := k.more fun _ z => (List.not_mem_nil z).elim
theorem Kp.put {M : List Addr} {H : Hp} {p : Addr} {o : HO} (h : p ∈ M) : Kp M H (upd H p o) := fun b x hb e => by rw [upd_ne (fun z : b = p => hb (by rw [z]; exact h))]; exact e
/-- a change at a place that was new -/
theorem Kp.drop {M : List Addr} {H H' : Hp} {p : Addr} (hp : H p = none) (k : Kp (p :: M) H H') : Kp M H H' := fun b o hb e =>
  k b o (fun z => (List.mem_cons.mp z).elim (fun z => by rw [z, hp] at e; cases e) hb) e
theorem Live.nil {H : Hp} : Live [] H := fun _ z => (List.not_mem_nil z).elim
theorem Live.cons {M : List Addr} {H : Hp} {p : Addr} {o : HO} (e : H p = some o) (l : Live M H) : Live (p :: M) H := fun b hb => (List.mem_cons.mp hb).elim (fun z => ⟨o, z ▸ e⟩) (l b)
theorem Live.fresh {M : List Addr} {H : Hp} {p : Addr} (l : Live M H) (h : H p = none) : p ∉ M := fun z => by obtain ⟨o, e⟩ := l p z; rw [h] at e; cases e
/-- (a heap that only grew keeps them there) -/
theorem Live.new {M : List Addr} {H : Hp} {p : Addr} {o : HO} (l : Live M H) : Live M (upd H p o) := fun b hb => by
  by_cases e : b = p
  · exact ⟨o, by rw [e, upd_same]⟩
  · obtain ⟨x, h⟩ := l b hb
    exact ⟨x, by rw [upd_ne e]; exact h⟩
mutual
theorem Rep.keep {M : List Addr} {H H' : Hp} (k : Kp M H H') : ∀ {v : V} {d : PyData}, Rep M H v d → Rep M H' v d
  | _, _, .non => .non
  | _, _, .bl b => .bl b
  | _, _, .int i => .int i
  | _, _, .str x => .str x
  | _, _, .tup n e r => .tup n (k _ _ n e) (Reps.keep k r)
  | _, _, .lst n z e r => .lst n z (k _ _ n e) (Reps.keep k r)
  | _, _, .emp n e => .emp n (k _ _ n e)
theorem Reps.keep {M : List Addr} {H H' : Hp} (k : Kp M H H') : ∀ {vs : List V} {ds : List PyData}, Reps M H vs ds → Reps M H' vs ds
  | _, _, .nil => .nil
  | _, _, .cons r s => .cons (Rep.keep k r) (Reps.keep k s)
end
mutual
/-- other lists that may change -/
theorem Rep.swap {M M' : List Addr} {H : Hp} (k : ∀ b o, H b = some o → b ∉ M → b ∉ M') : ∀ {v : V} {d : PyData}, Rep M H v d → Rep M' H v d
  | _, _, .non => .non
  | _, _, .bl b => .bl b
  | _, _, .int i => .int i
  | _, _, .str x => .str x
  | _, _, .tup n e r => .tup (k _ _ e n) e (Reps.swap k r)
  | _, _, .lst n z e r => .lst (k _ _ e n) z e (Reps.swap k r)
  | _, _, .emp n e => .emp (k _ _ e n) e
theorem Reps.swap {M M' : List Addr} {H : Hp} (k : ∀ b o, H b = some o → b ∉ M → b ∉ M') : ∀ {vs : List V} {ds : List PyData}, Reps M H vs ds → Reps M' H vs ds
  | _, _, .nil => .nil
  | _, _, .cons r s => .cons (Rep.swap k r) (Reps.swap k s)
end
theorem Rep.more {M : List Addr} {H : Hp} {p : Addr} {v : V} {d : PyData} (h : H p = none) (r : Rep M H v d) : Rep (p :: M) H v d :=
  r.swap fun b o e n z => (List.mem_cons.mp z).elim (fun q => by rw [q, h] at e; cases e) n
theorem Reps.more {M : List Addr} {H : Hp} {p : Addr} {v : List V} {d : List PyData} (h : H p = none) (r : Reps M H v d) : Reps (p :: M) H v d :=
  r.swap fun b o e n z => (List.mem_cons.mp z).elim (fun q => by rw [q, h] at e; cases e) n
theorem Rep.less {M M' : List Addr} {H : Hp} {v : V} {d : PyData} (h : ∀ b ∈ M', b ∈ M) (r : Rep M H v d) : Rep M' H v d := r.swap fun b _ _ n z => n (h b z)
theorem Reps.less {M M' : List Addr} {H : Hp} {v : List V} {d : List PyData} (h : ∀ b ∈ M', b ∈ M) (r : Reps M H v d) : Reps M' H v d := r.swap fun b _ _ n z => n (h b z)
theorem Reps.length {M : List Addr} {H : Hp} : ∀ {vs : List V} {ds : List PyData}, Reps M H vs ds → vs.length = ds.length
  | _, _, .nil => rfl
  | _, _, .cons _ r => congrArg (· + 1) r.length
theorem Reps.at {M : List Addr} {H : Hp} : ∀ {vs : List V} {ds : List PyData} {i : Nat} {v : V}, Reps M H vs ds → vs[i]? = some v → ∃ d, ds[i]? = some d ∧ Rep M H v d
  | _, _, _, _, .nil, e => by simp at e
  | _, _, 0, _, .cons r _, e => by simp at e; exact ⟨_, rfl, e ▸ r⟩
  | _, _, i + 1, _, .cons _ r, e => Reps.at (i := i) r (by simpa using e)
theorem Reps.at' {M : List Addr} {H : Hp} : ∀ {vs : List V} {ds : List PyData} {i : Nat} {d : PyData}, Reps M H vs ds → ds[i]? = some d → ∃ v, vs[i]? = some v ∧ Rep M H v d
  | _, _, _, _, .nil, e => by simp at e
  | _, _, 0, _, .cons r _, e => by simp at e; exact ⟨_, rfl, e ▸ r⟩
  | _, _, i + 1, _, .cons _ r, e => Reps.at' (i := i) r (by simpa using e)
theorem Reps.append {M : List Addr} {H : Hp} : ∀ {vs ws : List V} {ds es : List PyData}, Reps M H vs ds → Reps M H ws es → Reps M H (vs ++ ws) (ds ++ es)
  | _, _, _, _, .nil, s => s
  | _, _, _, _, .cons r t, s => .cons r (Reps.append t s)
theorem Reps.take {M : List Addr} {H : Hp} : ∀ {vs : List V} {ds : List PyData} (n : Nat), Reps M H vs ds → Reps M H (vs.take n) (ds.take n)
  | _, _, 0, _ => .nil
  | _, _, _ + 1, .nil => .nil
  | _, _, n + 1, .cons r t => .cons r (Reps.take n t)
theorem Reps.drop {M : List Addr} {H : Hp} : ∀ {vs : List V} {ds : List PyData} (n : Nat), Reps M H vs ds → Reps M H (vs.drop n) (ds.drop n)
  | _, _, 0, r => r
  | _, _, _ + 1, .nil => .nil
  | _, _, n + 1, .cons _ t => Reps.drop n t
theorem Reps.reverse {M : List Addr} {H : Hp} : ∀ {vs : List V} {ds : List PyData}, Reps M H vs ds → Reps M H vs.reverse ds.reverse
  | _, _, .nil => .nil
  | _, _, .cons r t => by
    rw [List.reverse_cons, List.reverse_cons]
    exact t.reverse.append (.cons r .nil)
theorem Reps.strs {M : List Addr} {H : Hp} : ∀ {vs : List V} {ss : List Str}, Reps M H vs (ss.map PyData.str) → vs = ss.map V.str
  | _, [], .nil => rfl
  | _, _ :: _, .cons (.str _) r => congrArg (_ :: ·) r.strs
theorem Reps.of_strs {M : List Addr} {H : Hp} : ∀ ss : List Str, Reps M H (ss.map V.str) (ss.map PyData.str)
  | [] => .nil
  | s :: r => .cons (.str s) (Reps.of_strs r)
section
variable {X : Cx} {pins : List (Addr × Obj)} {σ : L2.St} {H : Hp} {s : Shared} {M : List Addr}
mutual
/-- what the state says of such a value -/
theorem Rep.reads (I : Inv X pins σ H s) : ∀ {v : V} {d : PyData} {u : Value}, Rep M H v d → RelV v u → ∃ as, Reads s.heap u d as ∧ sysModules ∉ as
  | _, _, _, .non, r => by cases r; exact ⟨_, .none, List.not_mem_nil⟩
  | _, _, _, .bl b, r => by cases r; exact ⟨_, .bool b, List.not_mem_nil⟩
  | _, _, _, .int i, r => by obtain ⟨t, rfl⟩ := r; exact ⟨_, .int i t, List.not_mem_nil⟩
  | _, _, _, .str x, r => by obtain ⟨t, rfl⟩ := r; exact ⟨_, .str x t, List.not_mem_nil⟩
  | _, _, _, .tup _ e q, r => by
    cases r
    obtain ⟨_, its, rv, o, h1, h2, n, h3⟩ := (show ObjOk X.prog X.w H s.heap _ (.tup _) from I.hok _ _ e)
    obtain ⟨as, z, no⟩ := Reps.reads I q rv
    exact ⟨_, .tuple h1 h2 h3 z, no⟩
  | _, _, _, .lst _ ne e q, r => by
    cases r
    obtain ⟨_, its, n, rv, h1⟩ := (show ObjOk X.prog X.w H s.heap _ (.lst _) from I.hok _ _ e)
    obtain ⟨as, z, no⟩ := Reps.reads I q rv
    exact ⟨_, .list h1 rfl rfl z, fun m => (List.mem_cons.mp m).elim (fun z => ne z.symm) no⟩
  | _, _, _, .emp _ e, r => by
    cases r
    obtain ⟨_, hd, vs, kv, o, es, ep, h1, ex, h2, _, h3, _⟩ := (show ObjOk X.prog X.w H s.heap _ (.dK []) from I.hok _ _ e)
    cases kv
    have h4 : es.toList = [] := by cases q : es.toList with
      | nil => rfl
      | cons x r => rw [q] at h3; cases h3
    refine ⟨_, .dict h1 ex.1 h2 (kvs := []) (by rw [h4]; exact .nil) (by rw [h4]; exact .nil), fun m => ?_⟩
    have m' : sysModules ∈ _ :: ([] : List Addr) := m
    rw [List.mem_singleton] at m'
    exact absurd hd (by rw [m']; simp)
theorem Reps.reads (I : Inv X pins σ H s) : ∀ {vs : List V} {ds : List PyData} {us : List Value}, Reps M H vs ds → Vals vs us → ∃ as, ReadsAll s.heap us ds as ∧ sysModules ∉ as
  | _, _, _, .nil, r => by cases r; exact ⟨_, .nil, List.not_mem_nil⟩
  | _, _, _, .cons q qs, r => by
    cases r with
    | cons r1 r2 =>
      obtain ⟨as, z, no⟩ := Rep.reads I q r1
      obtain ⟨bs, z2, no2⟩ := Reps.reads I qs r2
      exact ⟨_, .cons z z2, fun m => (List.mem_append.mp m).elim no no2⟩
end
end
end Gd
end

section
set_option maxRecDepth 100000
set_option maxHeartbeats 2000000
/-! Built-ins over such data: repr, in, <, isinstance, new lists. -/
namespace PySem.SeqAt
open PySem PySem.MeetsSeq
theorem gd_str_declines (b : Str) (u : Tok) (l : Addr) (es : Array DictEntry) (n : Nat) :
    Meets (Builtin.«str.__eq__» ⟨[.str b u, .ref l], []⟩) (fun _ R s => s.heap.get? l = some { cls := .type "dict", data := .dict es n } ∧ R (.ok (.ret .notImplemented)) s) :=
  .of_wp fun prog w A R s h => by obtain ⟨hp, g, d, tk, os⟩ := s; obtain ⟨hl, h⟩ := h; wp_walk using wpAny_loadPart' hl, wpAny_load hl; exact ⟨_, rfl, h⟩
theorem gd_str_dict {prog : Program} {w : World} {A : Around} {s : Shared} {l : Addr} {es : Array DictEntry} {n : Nat} (b : Str) (u : Tok) (ho : s.heap.get? l = some { cls := .type "dict", data := .dict es n }) (hu : A.units < cLine) : EqAt A s (.str b u) (.ref l) false := fun prog w E Q h => by
  have ty : s.TypeIs (.ref l) "dict" := ⟨_, ho, rfl⟩
  unfold eqBool
  refine wpAny_holding (wpAny_ite_split (fun z => nomatch (eq_of_beq z)) fun _ => wpAny_bind ?_)
  refine rc_eq_decline_or (k := false) (typeIs_str s b u) ty (by decide) F.sub_dict_str F.slot_str_eq F.slot_dict_eq_refl
    (fun _ hq => call_meets F.slot_str_eq (typeIs_str s b u) F.entry_str_eq (F.args_str_eq_2 _ _) (gd_str_declines b u l es n) ⟨ho, hq⟩)
    (fun _ hq => wpAny_call_entry F.slot_dict_eq_refl ty F.entry_dict_eq ?_ (F.args_dict_eq_2 _ _))
    (fun _ hq => wpAny_of_eq (rfl : isSame (.str b u) (.ref l) = pure false) hq) (.inr hu) (wpAny_truthy_bool h)
  show wpAny _ _ (Builtin.Dict.dictSlotArgs "__eq__" ⟨[.ref l, .str b u], []⟩ >>= _) _ _ s
  refine wpAny_bind ?_
  unfold Builtin.Dict.dictSlotArgs
  refine wpAny_bind (wpAny_notOrdered_dict ty ?_)
  show wpAny _ _ (pure (Value.ref l, Value.str b u)) _ _ s
  refine wpAny_pure ?_
  refine wpAny_bind (wpAny_isInstance (T := "str") (typeIs_str s b u) F.sub_str_dict ?_)
  simp only [Bool.not_false, if_true]
  refine wpAny_bind (wpAny_rule ?_)
  exact wpAny_pure ⟨_, rfl, hq⟩
end PySem.SeqAt
namespace Gd
open PySem PySem.Spec PyProof.Rows L2
section
variable {X : Cx} {k : Nat}
/-- repr(v) -/
def rRepr : List V → Hp → VK → Prop := fun xs H Q => ∃ M v d, xs = [v] ∧ Rep M H v d ∧ d.showable = true ∧ d.depth ≤ 100 ∧ d.shown.length ≤ sizeLine ∧ Q (.str d.shown) H
theorem call_repr (hg : X.A.guards = some []) (hr : Room k X.A) : CallR X (.builtin "repr") rRepr := by
  intro pins s σ H xs us Q I r h
  obtain ⟨M, v, d, rfl, rp, sh, dp, sz, q⟩ := h
  obtain ⟨u, rfl, ru⟩ := vals1 r
  have un := hr.un
  cases rp with
  | non => cases ru; exact PySem.P.repr_of_none ⟨.str _, H, I.tok _, ⟨_, rfl⟩, q⟩
  | bl b => cases ru; exact PySem.P.repr_of_bool ⟨.str _, H, I.tok _, ⟨_, rfl⟩, q⟩
  | int i => obtain ⟨t, rfl⟩ := ru; exact PySem.P.repr_of_int (by simpa [PyData.showable] using sh) ⟨.str _, H, I.tok _, ⟨_, rfl⟩, q⟩
  | str x => obtain ⟨t, rfl⟩ := ru; exact PySem.P.repr_of_str ⟨.str _, H, I.tok _, ⟨_, rfl⟩, q⟩ (by simpa only [PyData.shown] using sz)
  | tup n e z =>
    obtain ⟨as, rd, no⟩ := Rep.reads I (.tup n e z) ru
    cases ru
    exact PySem.repr_of_reads' rd sh (fun _ => no) hg (by omega) (fun _ _ e => e) (fun h' u tk kp => ⟨.str _, H, I.kept kp, ⟨_, rfl⟩, q⟩) sz
  | lst n ne e z =>
    obtain ⟨as, rd, no⟩ := Rep.reads I (.lst n ne e z) ru
    cases ru
    exact PySem.repr_of_reads' rd sh (fun _ => no) hg (by omega) (fun _ _ e => e) (fun h' u tk kp => ⟨.str _, H, I.kept kp, ⟨_, rfl⟩, q⟩) sz
  | emp n e =>
    obtain ⟨as, rd, no⟩ := Rep.reads I (.emp (M := M) n e) ru
    cases ru
    exact PySem.repr_of_reads' rd sh (fun _ => no) hg (by omega) (fun _ _ e => e) (fun h' u tk kp => ⟨.str _, H, I.kept kp, ⟨_, rfl⟩, q⟩) sz
/-- x in t, t a tuple of texts, x anything -/
def inD (d : PyData) (ss : List Str) : Bool := match d with
  | .str x => decide (x ∈ ss)
  | _ => false
def rInT : R2 := fun x y H Q => ∃ M d a ss, Rep M H x d ∧ y = .ref a ∧ H a = some (.tup (ss.map V.str)) ∧ Q (.bl (inD d ss)) H
theorem vals_strs : ∀ {ss : List Str} {us : List Value}, Vals (ss.map V.str) us → ∀ y ∈ us, ∃ z ∈ ss, ∃ t, y = .str z t
  | [], _, .nil, _, h => nomatch h
  | s :: r, _, .cons ⟨t, e⟩ q, y, h => by
    rcases List.mem_cons.mp h with rfl | h
    · exact ⟨s, List.mem_cons_self, t, e⟩
    · obtain ⟨z, hz, t, e⟩ := vals_strs q y h
      exact ⟨z, List.mem_cons_of_mem _ hz, t, e⟩
theorem vals_any {x : Str} : ∀ {ss : List Str} {us : List Value}, Vals (ss.map V.str) us → (us.any fun u => match u with | .str z _ => decide (z = x) | _ => false) = decide (x ∈ ss)
  | [], _, .nil => by simp
  | s :: r, _, .cons ⟨t, e⟩ q => by
    subst e
    rw [List.any_cons, vals_any q]
    by_cases h : s = x
    · subst h; simp
    · have h' : ¬ x = s := fun z => h z.symm
      simp [h, h']
theorem op_inT (hr : Room k X.A) : OpR X (compareOp .In) rInT := by
  intro pins s σ H x y v u Q I rx ry h
  obtain ⟨M, d, a, ss, rp, rfl, ha, q⟩ := h
  cases ry
  obtain ⟨_, its, rv, ht⟩ := (show ObjOk X.prog X.w H s.heap a (.tup (ss.map V.str)) from I.hok _ _ ha)
  have un := hr.un
  have un1 : X.A.in1.units = X.A.units + 1 := rfl
  have fin : ∀ e : Value → Bool, its.any e = inD d ss → (∀ y, y ∈ its.toArray → SeqAt.EqAt X.A.in1 s y v (e y)) → wpAny (model X.prog X.w) X.A (compareOp .In v (.ref a)) (EP X pins σ Q) X.xe s := fun e he hy =>
    SeqAt.in_tupleAt e ht hy ⟨.bl _, H, I, rfl, by rw [List.any_toArray, he]; exact q⟩
  have no : (its.any fun _ => false) = false := by simp
  have txt : ∀ y ∈ its.toArray, ∃ z t, y = .str z t := fun y hy => let ⟨z, _, t, e⟩ := vals_strs rv y (by simpa using hy); ⟨z, t, e⟩
  cases rp with
  | non => cases rx; exact fin (fun _ => false) no fun y hy => by obtain ⟨z, t, rfl⟩ := txt y hy; exact SeqAt.EqAt.str_none z t
  | bl b => cases rx; exact fin (fun _ => false) no fun y hy => by obtain ⟨z, t, rfl⟩ := txt y hy; exact SeqAt.EqAt.str_bool z t b
  | int i => obtain ⟨t2, rfl⟩ := rx; exact fin (fun _ => false) no fun y hy => by obtain ⟨z, t, rfl⟩ := txt y hy; exact SeqAt.EqAt.str_int z t i t2
  | str x =>
    obtain ⟨t2, rfl⟩ := rx
    refine fin (fun u => match u with | .str z _ => decide (z = x) | _ => false) (vals_any rv) fun y hy => ?_
    obtain ⟨z, t, rfl⟩ := txt y hy
    have e := SeqAt.EqAt.str_str (A := X.A.in1) (s := s) z t x t2
    have e2 : (z == x) = decide (z = x) := by by_cases c : z = x <;> simp [c]
    rw [e2] at e
    exact e
  | tup n e z =>
    cases rx
    obtain ⟨_, i2, _, h2⟩ := (show ObjOk X.prog X.w H s.heap _ (.tup _) from I.hok _ _ e)
    exact fin (fun _ => false) no fun y hy => by obtain ⟨z, t, rfl⟩ := txt y hy; exact SeqAt.EqAt.str_tuple z t h2 (by omega)
  | lst n ne e z =>
    cases rx
    obtain ⟨_, i2, m, _, h2⟩ := (show ObjOk X.prog X.w H s.heap _ (.lst _) from I.hok _ _ e)
    exact fin (fun _ => false) no fun y hy => by obtain ⟨z, t, rfl⟩ := txt y hy; exact SeqAt.EqAt.str_list z t ⟨_, h2, rfl, _, rfl⟩ (by omega)
  | emp n e =>
    cases rx
    obtain ⟨_, hd, vs, kv, o, es, ep, h1, ex, h2, _⟩ := (show ObjOk X.prog X.w H s.heap _ (.dK []) from I.hok _ _ e)
    obtain ⟨oc, od, dt, sl⟩ := o
    obtain ⟨e1, e2, e3⟩ := ex
    simp only at e1 e2 e3 h2
    subst e1 e2 e3 h2
    exact fin (fun _ => false) no fun y hy => by obtain ⟨z, t, rfl⟩ := txt y hy; exact SeqAt.gd_str_dict (prog := X.prog) (w := X.w) z t h1 (by omega)
end
end Gd
end

section
set_option maxRecDepth 100000
set_option maxHeartbeats 2000000
/-! Further built-ins: <, isinstance, new lists, great powers. -/
namespace Gd
open PySem PySem.Spec PyProof.Rows L2
section
variable {X : Cx} {k : Nat}
/-- d < e, data of one shape -/
def rLtD : R2 := fun x y H Q => ∃ M d e, Rep M H x d ∧ Rep M H y e ∧ W.alike d e = true ∧ d ≠ .none ∧ d.depth ≤ 100 ∧ Q (.bl (W.dataLt d e)) H
theorem op_ltD (hr : Room k X.A) : OpR X (compareOp .Lt) rLtD := by
  intro pins s σ H x y v u Q I rx ry h
  obtain ⟨M, d, e, rd, re, al, nn, dp, q⟩ := h
  obtain ⟨as, z, _⟩ := Rep.reads I rd rx
  obtain ⟨bs, z2, _⟩ := Rep.reads I re ry
  have un := hr.un
  show wpAny _ _ (richCompare .Lt v u) _ _ s
  exact W.rcLt_alike d e X.A s v u as bs z z2 al nn (by omega) X.prog X.w X.xe _ ⟨.bl _, H, I, rfl, q⟩
/-- the class's name -/
def tyN : PyData → String
  | .none => "NoneType"
  | .bool _ => "bool"
  | .int _ => "int"
  | .str _ => "str"
  | .list _ => "list"
  | .tuple _ => "tuple"
  | .dict _ => "dict"
theorem Rep.ty {M : List Addr} {H : Hp} {K : W.Frag} {v : V} {d : PyData} (r : Rep M H v d) : TyX K H v (.type (tyN d)) := by
  cases r with
  | non => exact .base .non
  | bl b => exact .base (.bl b)
  | int i => exact .base (.int i)
  | str x => exact .base (.str x)
  | tup n e z => exact .base (.tup e)
  | lst n ne e z => exact .base (.lst e)
  | emp n e => exact .base (.dK e)
def isTup : PyData → Bool
  | .tuple _ => true
  | _ => false
def isStr : PyData → Bool
  | .str _ => true
  | _ => false
def isInt : PyData → Bool
  | .int _ => true
  | .bool _ => true
  | _ => false
theorem kit_tup {K : W.Frag} : ∀ d : PyData, W.kitOne K (.type (tyN d)) (.type "tuple") = some (isTup d)
  | .none => kit_ty (show kitB "NoneType" "tuple" = some false by decide +kernel)
  | .bool _ => kit_ty (show kitB "bool" "tuple" = some false by decide +kernel)
  | .int _ => kit_ty (show kitB "int" "tuple" = some false by decide +kernel)
  | .str _ => kit_ty (show kitB "str" "tuple" = some false by decide +kernel)
  | .list _ => kit_ty (show kitB "list" "tuple" = some false by decide +kernel)
  | .tuple _ => kit_ty (show kitB "tuple" "tuple" = some true by decide +kernel)
  | .dict _ => kit_ty (show kitB "dict" "tuple" = some false by decide +kernel)
theorem kit_str {K : W.Frag} : ∀ d : PyData, W.kitOne K (.type (tyN d)) (.type "str") = some (isStr d)
  | .none => kit_ty (show kitB "NoneType" "str" = some false by decide +kernel)
  | .bool _ => kit_ty (show kitB "bool" "str" = some false by decide +kernel)
  | .int _ => kit_ty (show kitB "int" "str" = some false by decide +kernel)
  | .str _ => kit_ty (show kitB "str" "str" = some true by decide +kernel)
  | .list _ => kit_ty (show kitB "list" "str" = some false by decide +kernel)
  | .tuple _ => kit_ty (show kitB "tuple" "str" = some false by decide +kernel)
  | .dict _ => kit_ty (show kitB "dict" "str" = some false by decide +kernel)
theorem kit_int {K : W.Frag} : ∀ d : PyData, W.kitOne K (.type (tyN d)) (.type "int") = some (isInt d)
  | .none => kit_ty (show kitB "NoneType" "int" = some false by decide +kernel)
  | .bool _ => kit_ty (show kitB "bool" "int" = some true by decide +kernel)
  | .int _ => kit_ty (show kitB "int" "int" = some true by decide +kernel)
  | .str _ => kit_ty (show kitB "str" "int" = some false by decide +kernel)
  | .list _ => kit_ty (show kitB "list" "int" = some false by decide +kernel)
  | .tuple _ => kit_ty (show kitB "tuple" "int" = some false by decide +kernel)
  | .dict _ => kit_ty (show kitB "dict" "int" = some false by decide +kernel)
/-- isinstance(x, T), x any data -/
def rIs (f : PyData → Bool) (T : String) : List V → Hp → VK → Prop := fun xs H Q => ∃ M v d, xs = [v, .ty T] ∧ Rep M H v d ∧ Q (.bl (f d)) H
theorem call_isTup : CallR X (.builtin "isinstance") (rIs isTup "tuple") := fun pins s σ H xs us Q I r h =>
  let ⟨_, v, d, e, rp, q⟩ := h; call_isi pins s σ H xs us Q I r ⟨v, _, _, _, _, e, .ty _, rp.ty, kit_tup d, q⟩
theorem call_isStr : CallR X (.builtin "isinstance") (rIs isStr "str") := fun pins s σ H xs us Q I r h =>
  let ⟨_, v, d, e, rp, q⟩ := h; call_isi pins s σ H xs us Q I r ⟨v, _, _, _, _, e, .ty _, rp.ty, kit_str d, q⟩
theorem call_isInt : CallR X (.builtin "isinstance") (rIs isInt "int") := fun pins s σ H xs us Q I r h =>
  let ⟨_, v, d, e, rp, q⟩ := h; call_isi pins s σ H xs us Q I r ⟨v, _, _, _, _, e, .ty _, rp.ty, kit_int d, q⟩
/-- a new list that is no module's table -/
def tLstS (t : TA) : TE := fun σ H Q => t σ H fun xs H1 => xs.length ≤ sizeLine ∧ ∀ p, H1 p = none → p ≠ sysModules → Q (.ref p) (upd H1 p (.lst xs))
theorem pe_lstS {es : List Expr} {t : TA} {pos : Pos} (h : PA X es t) : PE X (.List es pos) (tLstS t) := by
  refine ⟨fun pins s σ H Q I hq => wpAny_List_spliced (thn (h.run pos pins s σ H _ I hq) fun us s1 ⟨xs, H1, I1, r, z, q⟩ => ⟨by rw [← r.length]; exact z, ?_⟩)⟩
  have fr := I1.hok.fresh (Nat.le_refl _)
  exact ⟨.ref _, _, I1.laid (o := .lst xs) (t' := s1.toks) (fun _ _ e => Heap.get?_push_of_some _ e) (Nat.le_refl _) ⟨z, us, 0, r, Heap.get?_push_size _ rfl⟩, rfl, q _ fr (Nat.ne_of_gt I1.big)⟩
/-- list(t), t a tuple -/
def rListT : List V → Hp → VK → Prop := fun xs H Q => ∃ a ys, xs = [.ref a] ∧ H a = some (.tup ys) ∧ ∀ l, H l = none → l ≠ sysModules → Q (.ref l) (upd H l (.lst ys))
theorem call_listT : CallR X (.type "list") rListT := by
  intro pins s σ H xs us Q I r h
  obtain ⟨a, ys, rfl, ha, q⟩ := h
  obtain ⟨u, rfl, rx⟩ := vals1 r
  cases rx
  obtain ⟨sz, its, rv, o, ho, hc, n, hd⟩ := (show ObjOk X.prog X.w H s.heap a (.tup ys) from I.hok _ _ ha)
  have many := rv.length
  refine call_list_seq a (.inr rfl) ho hc hd (fun h' c' kp e => ?_) (by simp only [List.size_toArray]; omega)
  exact ⟨.ref _, _, I.laid (t' := s.toks) kp (Nat.le_refl _) (show ObjOk X.prog X.w _ h' _ (.lst ys) from ⟨sz, its, c', rv, e⟩), rfl, q _ (I.hok.fresh (Nat.le_refl _)) (Nat.ne_of_gt I.big)⟩
/-- a ** b of great numbers -/
def CPowW (i j : Int) : Prop := 0 ≤ j ∧ (Builtin.Int.intBits i : Int) * j ≤ 2 ^ 27
theorem op_powW : OpR X (binaryOp .Pow) (rI CPowW fun i j => .int (i ^ j.toNat)) := opI fun _ _ _ _ _ _ _ hc q => pow_int hc.1 hc.2 q
end
end Gd
end

section
set_option maxRecDepth 100000
set_option maxHeartbeats 2000000
/-! A def by its name: what it promises whoever calls it. -/
namespace Gd
open PySem PySem.Spec PyProof.Rows L2
/-- the module's name x holds a def that keeps sp -/
def Callee (P : Program) (w : World) (K : PySem.W.Frag) (mg : Str → Option Value) (base : Heap) (CX : CXT) (k : Nat) (x : Str) (ps : List Str) (sp : Sp) : Prop :=
  ∃ (f : Addr) (fd : FuncData), mg x = some (.ref f) ∧ PySem.W.keepIn K (.ref f) = true ∧ Binds K fd ps [] ∧ FnG P w K mg base CX k f fd ps sp
/-- the module's name x holds the def st of the text -/
def Defd (K : PySem.W.Frag) (mg : Str → Option Value) (x : Str) (st : Stmt) : Prop := ∃ (f : Addr) (fd : FuncData), mg x = some (.ref f) ∧ Fun K x x st f fd
section
variable {P : Program} {w : World} {K : PySem.W.Frag} {mg : Str → Option Value} {base : Heap} {CX : CXT} {j k : Nat} {x : Str} {N ps : List Str} {sp sp' : Sp} {st : Stmt}
theorem Callee.mono (C : Callee P w K mg base CX j x ps sp) (h : j ≤ k) : Callee P w K mg base CX k x ps sp := let ⟨f, fd, a, b, c, F⟩ := C; ⟨f, fd, a, b, c, F.mono h⟩
theorem Callee.imp (C : Callee P w K mg base CX k x ps sp) (h : ∀ vs H Q E, sp' vs H Q E → sp vs H Q E) : Callee P w K mg base CX k x ps sp' := let ⟨f, fd, a, b, c, F⟩ := C; ⟨f, fd, a, b, c, F.imp h⟩
theorem Defd.ok (D : Defd K mg x st) (S : FnScope N ps (defScope st)) (hb : ∀ (kV doc pm : Value) (an : Option Addr) (cdv ct : Value) (us : List Value), us.length = ps.length →
      bindArgs (PySem.W.fnOf x x (defArgs st) (defBody st) (defScope st) .none kV doc pm an cdv ct) ⟨us, []⟩ = pure (ps.zip us)) (len : ∀ vs H Q E, sp vs H Q E → vs.length = ps.length)
    (hbody : ∀ (f : Addr) (cdv : Value) (A : Around) (outer : List Env) (s : Shared) (H : Hp) (vs : List V) (Q : VK) (E : XK), A.guards = some [] → Room k (A.deeper (envOfC x (defScope st) s.heap.objs.size f cdv)) → sp vs H Q E →
      ∃ t, PSs (cxOf CX0 P w K mg base N x (defScope st) f cdv A outer s H E).nox (defBody st) t ∧ t { nx := fun _ H' => Q .non H', rt := Q } (start N vs) H) : Callee P w K mg base CX0 (k + 1) x ps sp :=
  let ⟨f, fd, hm, F⟩ := D
  ⟨f, fd, hm, F.kp, F.binds hb, okG F S len (hbody f)⟩
/-- a def that may raise -/
theorem Defd.okX (D : Defd K mg x st) (S : FnScope N ps (defScope st)) (hb : ∀ (kV doc pm : Value) (an : Option Addr) (cdv ct : Value) (us : List Value), us.length = ps.length →
      bindArgs (PySem.W.fnOf x x (defArgs st) (defBody st) (defScope st) .none kV doc pm an cdv ct) ⟨us, []⟩ = pure (ps.zip us)) (len : ∀ vs H Q E, sp vs H Q E → vs.length = ps.length)
    (hbody : ∀ (f : Addr) (cdv : Value) (A : Around) (outer : List Env) (s : Shared) (H : Hp) (vs : List V) (Q : VK) (E : XK), A.guards = some [] → Room k (A.deeper (envOfC x (defScope st) s.heap.objs.size f cdv)) → sp vs H Q E →
      ∃ t, PSs (cxOf (L2.CX P w) P w K mg base N x (defScope st) f cdv A outer s H E) (defBody st) t ∧ t { nx := fun _ H' => Q .non H', rt := Q } (start N vs) H) : Callee P w K mg base (L2.CX P w) (k + 1) x ps sp :=
  let ⟨f, fd, hm, F⟩ := D
  ⟨f, fd, hm, F.kp, F.binds hb, okGX F S len (hbody f)⟩
end
section
variable {X : Cx} {CX : CXT} {k : Nat} {ps : List Str} {sp : Sp} {E : XK} {x : Str} {p pos : Pos} {e : Expr} {es : List Expr} {t : TA}
/-- f(e, ..) -/
theorem pown (C : Callee X.prog X.w X.K X.mg X.base CX k x ps sp) (hgu : X.A.guards = some []) (hr : Room k X.A) (hg : Gl X x) (hx : Passes CX X E) (ha : PA X (e :: es) t) (hdb : (x == ("__debug__" : Str)) = false := by decide)
    (he : starEach (e :: es) X.env = (false, eval e X.env) :: starEach es X.env := by rfl) (hpl : (backTo pos (starEach es X.env)).any (·.1) = false := by rfl) : PE X (.Call (.Name x p) (e :: es) [] pos) (tCall sp [] E t) :=
  let ⟨_, _, hm, hk, hb, F⟩ := C
  pcall F hgu hr hg hm hk hb .nil hx ha hdb he hpl
end
end Gd
end

section
set_option maxRecDepth 100000
set_option maxHeartbeats 2000000
/-! Comprehensions: the new list, item by item; all(..) over them. -/
namespace Gd
open PySem PySem.Spec PyProof.Rows L2 RZ
theorem next_i {D : Ends} {σ : L2.St} {H : Hp} (h : D.nx σ H) : tNext D σ H := h
theorem ret_i {te : TE} {D : Ends} {σ : L2.St} {H : Hp} (h : te σ H D.rt) : tRet te D σ H := h
section
variable {J : It} {n : Nat} {G : Hp → Prop} {Y : Nat → Hp → V → Hp → Prop} {g : TG} {te : TE} {vs : List Nat} {σ : L2.St} {H1 : Hp} {D : Addr} {Qd : Hp → Prop}
theorem lc_by (w : Walk J n G Y) (hn : n ≤ sizeLine) (Pv : Nat → List V → Hp → Prop) (h0 : Pv 0 [] (upd H1 D (.lst []))) (hG : ∀ i acc H, i ≤ n → Pv i acc H → G H) (hl : ∀ i acc H, Pv i acc H → acc.length = i ∧ H D = some (.lst acc))
    (hs : ∀ i acc x H H', i < n → Pv i acc H → Y i H x H' → ∀ Kt : V → Hp → Prop, (∀ y H4, H4 D = some (.lst acc) → Pv (i + 1) (acc ++ [y]) (upd H4 D (.lst (acc ++ [y]))) → Kt y H4) → g x (wipe σ vs) H' fun σ2 H2 => wipe σ2 vs = wipe σ vs ∧ te σ2 H2 Kt)
    (hd : ∀ acc H, Pv n acc H → Qd H) :
    ∃ W : Nat → Nat → Hp → Prop, (∃ m, W 0 m (upd H1 D (.lst []))) ∧ ∀ i m H, W i m H →
      (J.stop i H ∧ Qd H) ∨ (J.go i H ∧ ∃ Nx : Hp → Prop, (∀ H', Nx H' → ∃ m', m' < m ∧ W (i + 1) m' H') ∧ ∀ x H', J.yld i H x H' → g x (wipe σ vs) H' fun σ2 H2 => wipe σ2 vs = wipe σ vs ∧ tYes σ2 H2 fun b H3 =>
        if b = true then te σ2 H3 fun y H4 => ∃ acc, H4 D = some (.lst acc) ∧ acc.length < sizeLine ∧ Nx (upd H4 D (.lst (acc ++ [y]))) else Nx H3) := by
  refine lc_it w (fun i H => ∃ acc, Pv i acc H) ⟨[], h0⟩ (fun i H hi ⟨acc, p⟩ => hG i acc H hi p) (fun i x H H' hi ⟨acc, p⟩ y => ?_) fun H ⟨acc, p⟩ => hd acc H p
  exact hs i acc x H H' hi p y (fun y H4 => ∃ acc, H4 D = some (.lst acc) ∧ acc.length < sizeLine ∧ ∃ acc', Pv (i + 1) acc' (upd H4 D (.lst (acc ++ [y])))) fun y H4 e q => ⟨acc, e, by rw [(hl i acc H p).1]; omega, _, q⟩
/-- items that are booleans, found without a change -/
theorem lc_bools (w : Walk J n G Y) (hn : n ≤ sizeLine) (hD : H1 D = none) (b : Nat → Bool) (hG : ∀ H, Kp [] H1 H → G H)
    (hs : ∀ i x H H', i < n → Kp [] H1 H → Y i H x H' → ∀ Kt : V → Hp → Prop, (∀ H4, Kp [] H H4 → Kt (.bl (b i)) H4) → g x (wipe σ vs) H' fun σ2 H2 => wipe σ2 vs = wipe σ vs ∧ te σ2 H2 Kt)
    (hd : ∀ H, Kp [] H1 H → H D = some (.lst ((List.range n).map fun i => V.bl (b i))) → Qd H) :
    ∃ W : Nat → Nat → Hp → Prop, (∃ m, W 0 m (upd H1 D (.lst []))) ∧ ∀ i m H, W i m H →
      (J.stop i H ∧ Qd H) ∨ (J.go i H ∧ ∃ Nx : Hp → Prop, (∀ H', Nx H' → ∃ m', m' < m ∧ W (i + 1) m' H') ∧ ∀ x H', J.yld i H x H' → g x (wipe σ vs) H' fun σ2 H2 => wipe σ2 vs = wipe σ vs ∧ tYes σ2 H2 fun b H3 =>
        if b = true then te σ2 H3 fun y H4 => ∃ acc, H4 D = some (.lst acc) ∧ acc.length < sizeLine ∧ Nx (upd H4 D (.lst (acc ++ [y]))) else Nx H3) := by
  refine lc_by w hn (fun i acc H => Kp [] H1 H ∧ acc = (List.range i).map (fun i => V.bl (b i)) ∧ H D = some (.lst acc)) ⟨Kp.new hD, rfl, upd_same⟩ (fun i acc H _ p => hG H p.1) (fun i acc H p => ⟨by rw [p.2.1]; simp, p.2.2⟩) (fun i acc x H H' hi p y Kt q => ?_) fun acc H p => hd H p.1 (p.2.1 ▸ p.2.2)
  obtain ⟨k, e, ed⟩ := p
  refine hs i x H H' hi k y Kt fun H4 k4 => ?_
  have e4 := k4 D _ List.not_mem_nil ed
  refine q _ H4 e4 ⟨fun c o nc ec => ?_, by rw [e, List.range_succ, List.map_append]; rfl, upd_same⟩
  rw [upd_ne (ne_of_none ec hD)]
  exact k4 c o nc (k c o nc ec)
end
section
variable {J : It} {n : Nat} {G : Hp → Prop} {Y : Nat → Hp → V → Hp → Prop} {g : TG} {te : TE} {vs : List Nat} {σ : L2.St} {H1 : Hp} {D : Addr} {Qd : Hp → Prop}
/-- items of a kind, found without a change -/
theorem lc_pure (w : Walk J n G Y) (hn : n ≤ sizeLine) (hD : H1 D = none) (R : V → Prop) (hG : ∀ H, Kp [] H1 H → G H)
    (hs : ∀ i x H H', i < n → Kp [] H1 H → Y i H x H' → ∀ Kt : V → Hp → Prop, (∀ y H4, Kp [] H H4 → R y → Kt y H4) → g x (wipe σ vs) H' fun σ2 H2 => wipe σ2 vs = wipe σ vs ∧ te σ2 H2 Kt)
    (hd : ∀ acc H, Kp [] H1 H → H D = some (.lst acc) → acc.length = n → (∀ y ∈ acc, R y) → Qd H) :
    ∃ W : Nat → Nat → Hp → Prop, (∃ m, W 0 m (upd H1 D (.lst []))) ∧ ∀ i m H, W i m H →
      (J.stop i H ∧ Qd H) ∨ (J.go i H ∧ ∃ Nx : Hp → Prop, (∀ H', Nx H' → ∃ m', m' < m ∧ W (i + 1) m' H') ∧ ∀ x H', J.yld i H x H' → g x (wipe σ vs) H' fun σ2 H2 => wipe σ2 vs = wipe σ vs ∧ tYes σ2 H2 fun b H3 =>
        if b = true then te σ2 H3 fun y H4 => ∃ acc, H4 D = some (.lst acc) ∧ acc.length < sizeLine ∧ Nx (upd H4 D (.lst (acc ++ [y]))) else Nx H3) := by
  refine lc_by w hn (fun i acc H => Kp [] H1 H ∧ H D = some (.lst acc) ∧ acc.length = i ∧ ∀ y ∈ acc, R y) ⟨Kp.new hD, upd_same, rfl, nofun⟩ (fun i acc H _ p => hG H p.1) (fun i acc H p => ⟨p.2.2.1, p.2.1⟩) (fun i acc x H H' hi p y Kt q => ?_) fun acc H p => hd acc H p.1 p.2.1 p.2.2.1 p.2.2.2
  obtain ⟨k, ed, el, hr⟩ := p
  refine hs i x H H' hi k y Kt fun y H4 k4 ry => ?_
  have e4 := k4 D _ List.not_mem_nil ed
  refine q _ H4 e4 ⟨fun c o nc ec => ?_, upd_same, by simp [el], fun z hz => ?_⟩
  · rw [upd_ne (ne_of_none ec hD)]
    exact k4 c o nc (k c o nc ec)
  · rcases List.mem_append.mp hz with hz | hz
    · exact hr z hz
    · rw [List.mem_singleton.mp hz]; exact ry
end
theorem all_range {α : Type} (ds : List α) (f : α → Bool) (b : Nat → Bool) (h : ∀ i d, ds[i]? = some d → b i = f d) : ((List.range ds.length).map b).all id = ds.all f := by
  induction ds generalizing b with
  | nil => rfl
  | cons d r ih =>
    rw [List.length_cons, List.range_succ_eq_map, List.map_cons, List.all_cons, List.map_map, List.all_cons]
    rw [ih (b ∘ Nat.succ) fun i e q => h (i + 1) e (by simpa using q), show id (b 0) = f d from h 0 d rfl]
theorem map_bl (n : Nat) (b : Nat → Bool) : ((List.range n).map fun i => V.bl (b i)) = ((List.range n).map b).map V.bl := by rw [List.map_map]; rfl
section
variable {K : PySem.W.Frag} {te0 te : TE} {g : TG} {vs : List Nat} {σ : L2.St} {H : Hp} {Q : VK}
/-- all([.. for x in t]) -/
theorem all_tup {a : Addr} {xs : List V} (b : Nat → Bool) (h0 : ∀ R : V → Hp → Prop, R (.ref a) H → te0 σ H R) (ha : H a = some (.tup xs)) (hn : xs.length ≤ sizeLine)
    (hs : ∀ (m : Nat) x H', xs[m]? = some x → Kp [] H H' → ∀ Kt : V → Hp → Prop, (∀ H3, Kp [] H' H3 → Kt (.bl (b m)) H3) → g x (wipe σ vs) H' fun σ2 H2 => wipe σ2 vs = wipe σ vs ∧ te σ2 H2 Kt)
    (q : ∀ H', Kp [] H H' → Q (.bl (((List.range xs.length).map b).all id)) H') : tCB (rAll K) (tCons (tLc (iTup K te0) g tYes te vs) tNil) σ H Q := by
  refine h0 _ ⟨a, rfl, ⟨xs, .inl (.inl ha)⟩, fun D hD => ?_⟩
  refine lc_bools (walk_tup (K := K) (a := a) (xs := xs)) hn hD b (fun H' k => .inl (.inl (k a _ List.not_mem_nil ha))) (fun i x H' H2 hi k y Kt q => ?_) fun H' k e => ?_
  · obtain ⟨rfl, ex⟩ := y
    exact hs i x _ ex k Kt q
  · exact ⟨D, _, rfl, .inl (.inl (map_bl _ _ ▸ e)), q H' k⟩
/-- all([.. for c in text]) -/
theorem all_str {z : Str} (b : Nat → Bool) (h0 : ∀ R : V → Hp → Prop, R (.str z) H → te0 σ H R) (hn : z.cps.size ≤ sizeLine)
    (hs : ∀ (m : Nat) c H', z.cps[m]? = some c → Kp [] H H' → ∀ Kt : V → Hp → Prop, (∀ H3, Kp [] H' H3 → Kt (.bl (b m)) H3) → g (.str ⟨#[c]⟩) (wipe σ vs) H' fun σ2 H2 => wipe σ2 vs = wipe σ vs ∧ te σ2 H2 Kt)
    (q : ∀ H', Kp [] H H' → Q (.bl (((List.range z.cps.size).map b).all id)) H') : tCB (rAll K) (tCons (tLc (iStr te0) g tYes te vs) tNil) σ H Q := by
  refine h0 _ ⟨z, rfl, fun D hD => ?_⟩
  refine lc_bools (walk_str (z := z)) hn hD b (fun _ _ => trivial) (fun i x H' H2 hi k y Kt q => ?_) fun H' k e => ?_
  · obtain ⟨rfl, c, ec, rfl⟩ := y
    exact hs i c _ ec k Kt q
  · exact ⟨D, _, rfl, .inl (.inl (map_bl _ _ ▸ e)), q H' k⟩
theorem walk_zipT {a b : Addr} {xs ys : List V} {n : Nat} (hn : n = min xs.length ys.length) : Walk (ItzT K a b) n (fun H => SqT K H a xs ∧ SqT K H b ys) (YPair (fun i => xs[i]?) (fun i => ys[i]?)) := by
  subst hn
  refine ⟨fun i _ hi q => ?_, fun _ q => ⟨xs, ys, q.1, q.2, by omega⟩, fun i H v H' _ q y => ?_⟩
  · have h1 : i < xs.length := by omega
    have h2 : i < ys.length := by omega
    exact ⟨xs, ys, xs[i], ys[i], q.1, q.2, by simp [h1], by simp [h2]⟩
  · obtain ⟨T, x, z, h1, h2, h3, h4, h5⟩ := y
    exact ⟨T, x, z, h1, h2, h3, h4 xs q.1, h5 ys q.2⟩
/-- all([.. for x, y in zip(t, u)]) -/
theorem all_zip {ta : TA} {a : Addr} {xs ys : List V} (b : Nat → Bool) (h0 : ∀ R : List V → Hp → Prop, (∀ a2 H1, Kp [] H H1 → H1 a = some (.tup xs) → H1 a2 = some (.tup ys) → R [.ref a, .ref a2] H1) → ta σ H R) (hn : xs.length ≤ sizeLine)
    (hs : ∀ (m : Nat) x y T H', xs[m]? = some x → ys[m]? = some y → Kp [] H H' → H' T = some (.tup [x, y]) → ∀ Kt : V → Hp → Prop, (∀ H3, Kp [] H' H3 → Kt (.bl (b m)) H3) → g (.ref T) (wipe σ vs) H' fun σ2 H2 => wipe σ2 vs = wipe σ vs ∧ te σ2 H2 Kt)
    (q : ∀ H', Kp [] H H' → Q (.bl (((List.range (min xs.length ys.length)).map b).all id)) H') : tCB (rAll K) (tCons (tLc (iZipA K ta) g tYes te vs) tNil) σ H Q := by
  refine h0 _ fun a2 H1 k1 ha hb => ⟨a, a2, xs, ys, rfl, .inr ⟨.inl (.inl ha), .inl (.inl hb), fun D hD => ?_⟩⟩
  refine lc_bools (walk_zipT (K := K) (a := a) (b := a2) (xs := xs) (ys := ys) rfl) (by omega) hD b (fun H' k => ⟨.inl (.inl (k a _ List.not_mem_nil ha)), .inl (.inl (k a2 _ List.not_mem_nil hb))⟩) (fun i x H' H2 hi k y Kt q => ?_) fun H' k e => ?_
  · obtain ⟨T, x, y, rfl, nT, rfl, ex, ey⟩ := y
    exact hs i x y T _ ex ey ((k1.trans k).trans (Kp.new nT)) upd_same Kt fun H3 k3 => q H3 ((Kp.new nT).trans k3)
  · exact ⟨D, _, rfl, .inl (.inl (map_bl _ _ ▸ e)), q H' (k1.trans k)⟩
theorem cut1 (xs : List V) : cutV xs (some 1) none = xs.drop 1 := by
  unfold cutV
  rw [show HT.sIx xs.length 0 (some 1) = min 1 xs.length from HT.sIx_nat _ _ 1, HT.sIx_none]
  cases xs with
  | nil => rfl
  | cons x r =>
    rw [show min 1 (x :: r).length = 1 by rw [List.length_cons]; omega]
    exact List.take_of_length_le (by simp)
end
end Gd
end

section
set_option maxRecDepth 100000
set_option maxHeartbeats 2000000
/-! How large data are: small data can be shown. -/
namespace Gd
open PySem PySem.Spec PyProof.Rows L2
mutual
/-- more than the signs that it is written with, a twelfth -/
def wt : PyData → Nat
  | .none | .bool _ => 1
  | .int _ => 40
  | .str x => x.length + 1
  | .list xs | .tuple xs => wts xs + 1
  | .dict kvs => 1
def wts : List PyData → Nat
  | [] => 0
  | x :: xs => wt x + 1 + wts xs
end
mutual
/-- whole numbers up to B, plain texts, no dict but the empty one -/
def good (B : Nat) : PyData → Prop
  | .none | .bool _ => True
  | .int i => i.natAbs ≤ B
  | .str x => ∀ c ∈ x.cps.toList, c < 128
  | .list xs | .tuple xs => goods B xs
  | .dict kvs => kvs = []
def goods (B : Nat) : List PyData → Prop
  | [] => True
  | x :: xs => good B x ∧ goods B xs
end
mutual
theorem good.mono {B C : Nat} (l : B ≤ C) : ∀ {d : PyData}, good B d → good C d
  | .none, _ | .bool _, _ => trivial
  | .int _, h => Nat.le_trans h l
  | .str _, h => h
  | .list _, h | .tuple _, h => goods.mono l h
  | .dict _, h => h
theorem goods.mono {B C : Nat} (l : B ≤ C) : ∀ {ds : List PyData}, goods B ds → goods C ds
  | [], _ => trivial
  | _ :: _, h => ⟨good.mono l h.1, goods.mono l h.2⟩
end
theorem log2_small {i : Int} {B : Nat} (hB : B < 2 ^ 400) (h : i.natAbs ≤ B) : i.natAbs.log2 < 400 := by
  by_cases e : i.natAbs = 0
  · rw [e]; decide
  · exact (Nat.log2_lt e).mpr (Nat.lt_of_le_of_lt h hB)
section
variable {B : Nat} (hB : B < 2 ^ 400)
include hB
mutual
theorem good.showable : ∀ {d : PyData}, good B d → d.showable = true
  | .none, _ | .bool _, _ | .str _, _ => by simp only [PyData.showable]
  | .int i, h => by
    simp only [PyData.showable, decide_eq_true_eq]
    have := log2_small hB h
    omega
  | .list xs, h | .tuple xs, h => by simp only [PyData.showable]; exact goods.showable h
  | .dict kvs, h => by
    have h : kvs = [] := h
    subst h
    simp only [PyData.showable, PyData.showableKv]
theorem goods.showable : ∀ {ds : List PyData}, goods B ds → PyData.showableAll ds = true
  | [], _ => by simp only [PyData.showableAll]
  | d :: r, h => by simp only [PyData.showableAll, good.showable h.1, goods.showable h.2, Bool.and_self]
end
end
theorem from_le : ∀ (ts : List Str) (k : Nat) (acc : Str), (textFrom k acc ts).length ≤ acc.length + piled ts
  | [], _, acc => Nat.le_add_right _ _
  | t :: r, k, acc => by
    have ih := from_le r (k + 1) (acc ++ (if k > 0 then ", " else "" : String) ++ t)
    have e : (acc ++ (if k > 0 then ", " else "" : String) ++ t).length ≤ acc.length + 2 + t.length := by
      rw [strLen_append, strLen_append]
      split
      · exact Nat.le_refl _
      · exact Nat.add_le_add_right (Nat.le_add_right _ 2) _
    rw [piled_cons]
    show (textFrom (k + 1) _ r).length ≤ _
    omega
theorem list_le (ts : List Str) : (listText ts).length ≤ piled ts + 2 := by
  have := from_le ts 0 "["
  have e1 : (("[" : String) : Str).length = 1 := rfl
  have e2 : (("]" : String) : Str).length = 1 := rfl
  unfold listText
  rw [strLen_append]
  omega
section
variable {B : Nat} (hB : B < 2 ^ 400)
include hB
mutual
theorem shown_le : ∀ {d : PyData}, good B d → d.shown.length ≤ 12 * wt d
  | .none, _ => by simp only [PyData.shown, wt]; decide
  | .bool b, _ => by simp only [PyData.shown, wt]; cases b <;> decide
  | .int i, h => by
    simp only [PyData.shown, wt]
    have := PySem.int_text_length_le (a := i) (k := 400) (by decide) (log2_small hB h)
    have e : (Str.ofString (toString i)).length = (toString i).length := PySem.ofString_length _
    omega
  | .str x, h => by
    simp only [PyData.shown, wt]
    have := StrLaws.reprText_len x fun c hc => Nat.lt_trans (h c hc) (by decide)
    omega
  | .list xs, h => by
    simp only [PyData.shown, wt]
    have := showns_le h
    have e := list_le (PyData.shownAll xs)
    omega
  | .tuple xs, h => by
    simp only [PyData.shown, wt]
    have := showns_le h
    have e := PySem.fmt_text (PyData.shownAll xs)
    omega
  | .dict kvs, h => by
    have h : kvs = [] := h
    subst h
    simp only [PyData.shown, PyData.shownKv, wt]
    decide +kernel
theorem showns_le : ∀ {ds : List PyData}, goods B ds → piled (PyData.shownAll ds) ≤ 12 * wts ds
  | [], _ => by simp only [PyData.shownAll, wts]; decide
  | d :: r, h => by
    simp only [PyData.shownAll, wts, piled_cons]
    have h1 := shown_le h.1
    have h2 := showns_le h.2
    omega
end
end
end Gd
end

section
set_option maxRecDepth 100000
set_option maxHeartbeats 2000000
/-! Tuples backwards, numbers that may be booleans, == with the empty tuple, plain texts in capitals. -/
namespace HT
open PySem PySem.Spec PyProof.Rows
variable {prog : Program} {w : World} {A : Around} {E : Value → Shared → Prop} {s : Shared}
theorem gd_congr {α β : Type} {f g : α → Option β} : ∀ l : List α, (∀ x ∈ l, f x = g x) → l.filterMap f = l.filterMap g
  | [], _ => rfl
  | x :: r, h => by
    rw [List.filterMap_cons, List.filterMap_cons, h x List.mem_cons_self, gd_congr r fun y hy => h y (List.mem_cons_of_mem _ hy)]
theorem gd_pick (xs : Array Value) : ((List.range xs.size).filterMap fun (m : Nat) => xs[(((xs.size : Int) - 1) + (m : Int) * (-1)).toNat]?) = xs.toList.reverse := by
  have e := pick_run xs.reverse 0 xs.size
  rw [show ((0 + ·) : Nat → Nat) = id from funext fun k => Nat.zero_add k, List.map_id, List.drop_zero, Array.toList_reverse, List.take_of_length_le (by simp)] at e
  rw [← e]
  refine gd_congr _ fun m hm => ?_
  have hm := List.mem_range.mp hm
  rw [Array.getElem?_reverse hm]
  congr 1
  omega
theorem gd_applied {sl : Addr} {vl vu vs : Value} {n : Nat} {Q : Int × Int × Nat → Shared → Prop} (hs : s.heap.IsSliceOf sl vl vu vs) (pl : IsPart vl none) (pu : IsPart vu none) (ps : IsPart vs (some (-1)))
    (h : Q ((n : Int) - 1, -1, n) s) : wpAny (model prog w) A (Builtin.Slice.sliceApplied (.ref sl) (pure (n : Int))) Q E s := by
  obtain ⟨os, hos, hcs, hds⟩ := id hs
  unfold Builtin.Slice.sliceApplied Builtin.Slice.sliceFields
  refine wpAny_bind (wpAny_bind (wpAny_field hos hds (x := vl) rfl (wpAny_bind (wpAny_field hos hds (x := vu) rfl (wpAny_bind (wpAny_field hos hds (x := vs) rfl (wpAny_pure ?_)))))))
  refine wpAny_bind (slicePart_ ps ?_)
  show wpAny _ _ (if ((-1 : Int) == 0) = true then _ else _) _ _ s
  rw [if_neg (by decide)]
  refine wpAny_bind (slicePart_ pl (wpAny_bind (slicePart_ pu (wpAny_bind (wpAny_pure ?_)))))
  have e1 : Builtin.Slice.sliceAdjust none none (-1) (n : Int) = ((n : Int) - 1, -1) := by
    first | rfl | (unfold Builtin.Slice.sliceAdjust; simp)
  have e2 : Builtin.Slice.slicePlaces ((n : Int) - 1) (-1) (-1) = n := by
    unfold Builtin.Slice.slicePlaces
    simp
    omega
  show wpAny _ _ (match Builtin.Slice.sliceAdjust none none (-1) (n : Int) with | (lo, hi) => pure (lo, (-1 : Int), Builtin.Slice.slicePlaces lo hi (-1))) _ _ s
  rw [e1]
  show wpAny _ _ (pure ((n : Int) - 1, (-1 : Int), Builtin.Slice.slicePlaces ((n : Int) - 1) (-1) (-1))) _ _ s
  rw [e2]
  exact wpAny_pure h
theorem gd_getItem_rev {t sl : Addr} {items : Array Value} {vl vu vs : Value} {Q : Value → Shared → Prop} (ht : IsTup s.heap t items) (hs : s.heap.IsSliceOf sl vl vu vs) (pl : IsPart vl none) (pu : IsPart vu none) (ps : IsPart vs (some (-1)))
    (h : Q (.ref s.heap.objs.size) { s with heap := s.heap.push { cls := .type "tuple", data := .seq items.toList.reverse.toArray } }) (hsz : items.size ≤ sizeLine) : wpAny (model prog w) A (getItem (.ref t) (.ref sl)) Q E s := by
  have fits : sizeOk (.seq items.toList.reverse.toArray) := by show items.toList.reverse.toArray.size ≤ sizeLine; simpa using hsz
  have hTs : s.TypeIs (.ref sl) "slice" := let ⟨os, a, b, _⟩ := hs; ⟨os, a, b⟩
  unfold getItem
  try with_reducible refine wpAny_holding ?_
  first | refine wpAny_bind (wpAny_pure ?_) | skip
  refine wpAny_bind (wpAny_sequenceKey ht.typeIs (by decide) ?_)
  refine wpAny_bind (wpAny_callSpecial?_slot (name := Str.ofString "__getitem__") ht.typeIs PyProof.Rows.slot_tuple_getitem (wpAny_call_entry PyProof.Rows.slot_tuple_getitem ht.typeIs entry_tuple_getitem ?_ (args_tuple_getitem _ _)))
  show wpAny _ _ (Builtin.Tuple.tupleItemsOf (.ref t) >>= _) _ _ s
  refine wpAny_bind (tupleItemsOf_ ht (wpAny_bind (wpAny_typeOf hTs ?_)))
  rw [if_pos (by decide)]
  refine wpAny_bind (gd_applied hs pl pu ps ?_)
  have no : ¬ (((((items.size : Int) - 1) == 0) && ((-1 : Int) == 1) && (items.size == items.size)) = true) := by simp
  show wpAny _ _ (if ((((items.size : Int) - 1) == 0) && ((-1 : Int) == 1) && (items.size == items.size)) = true then _ else _) _ _ s
  rw [if_neg no, gd_pick]
  first
    | exact wpAny_bind (m := Builtin.Tuple.tupleExact _) (wpAny_newObj_type (wpAny_pure ⟨_, rfl, wpAny_pure h⟩) fits)
    | exact wpAny_bind (wpAny_bind (m := Builtin.Tuple.tupleExact _) (wpAny_newObj_type (wpAny_pure (wpAny_pure ⟨_, rfl, wpAny_pure h⟩)) fits))
    | exact wpAny_bind (wpAny_bind (m := Builtin.Tuple.tupleExact _) (wpAny_newObj_type (wpAny_pure ⟨_, rfl, wpAny_pure h⟩) fits))
    | exact wpAny_bind (m := Builtin.Tuple.tupleExact _) (wpAny_newObj_type (wpAny_bind (wpAny_pure (wpAny_pure ⟨_, rfl, wpAny_pure h⟩))) fits)
end HT
namespace Gd
open PySem PySem.Spec PyProof.Rows L2
/-- t[::-1] -/
def tRevT (te : TE) : TE := fun σ H Q => te σ H fun x H1 => ∃ a xs, x = .ref a ∧ H1 a = some (.tup xs) ∧ ∀ p, H1 p = none → Q (.ref p) (upd H1 p (.tup xs.reverse))
theorem pe_revT {X : Cx} {e : Expr} {te : TE} {k : Nat} {p1 p2 p3 pos : Pos} (he : PE X e te) : PE X (.Subscript e (.Slice none none (some (.UnaryOp .USub (.Constant (.int 1) k p1) p2)) p3) pos) (tRevT te) := by
  refine ⟨fun pins s σ H Q I h => Subscript_ (thn (he.run pins s σ H _ I h) fun v s1 ⟨x, H1, I1, r1, a, xs, ex, hx, q⟩ => ?_)⟩
  subst ex
  cases r1
  have one : PO X (some (.UnaryOp .USub (.Constant (.int 1) k p1) p2)) (tPart (tUn (rU fun i => .int (-i)) (tC (.int 1)))) := po_some (pe_un un_neg pe_int)
  refine wpAny_Slice (thn (po_none.run pins s1 σ H1 (fun o G => o = none ∧ G = H1) I1 ⟨rfl, rfl⟩) fun vl s2 ⟨_, _, I2, pl, e1, e2⟩ => ?_)
  subst e1 e2
  refine thn (po_none.run pins s2 σ _ (fun o G => o = none ∧ G = _) I2 ⟨rfl, rfl⟩) fun vu s3 ⟨_, _, I3, pu, e3, e4⟩ => ?_
  subst e3 e4
  refine thn (one.run pins s3 σ _ (fun o G => o = some (-1) ∧ G = _) I3 ⟨1, rfl, -1, rfl, rfl, rfl⟩) fun vs s4 ⟨_, G, I4, ps, e5, e6⟩ => ?_
  subst e5 e6
  have I5 := I4.kept (h' := s4.heap.push { cls := .type "slice", data := .fields #[vl, vu, vs] }) (t' := s4.toks) fun b ob q => Heap.get?_push_of_some _ q
  obtain ⟨sz, its, rv, ht⟩ := (show ObjOk X.prog X.w _ _ a (.tup xs) from I5.hok _ _ hx)
  have many := rv.length
  show wpAny (model X.prog X.w) X.A (subscriptTail e (.Slice none none (some (.UnaryOp .USub (.Constant (.int 1) k p1) p2)) p3) (.ref a) (.ref s4.heap.objs.size)) (EP X pins σ Q) X.xe { s4 with heap := s4.heap.push { cls := .type "slice", data := .fields #[vl, vu, vs] } }
  refine tail_any (ops := [.ref a, .ref s4.heap.objs.size]) ht.typeIs (PyProof.Rows.slot_tuple_getitem.lookup) ?_ (by with_unfolding_all rfl)
  refine HT.gd_getItem_rev ht (Heap.IsSliceOf.new _ vl vu vs) pl pu ps ?_ (by rw [List.size_toArray]; omega)
  exact ⟨.ref _, _, I5.laid (t' := s4.toks) (o := .tup xs.reverse) (fun b ob q => Heap.get?_push_of_some _ q) (Nat.le_refl _) ⟨by rw [List.length_reverse]; exact sz, _, rv.reverse, IsTup.new _ _⟩, rfl, q _ (I5.hok.fresh (Nat.le_refl _))⟩
section
variable {X : Cx} {k : Nat}
/-- an int, or a boolean that counts as one -/
def NumV (x : V) (i : Int) : Prop := x = .int i ∨ ∃ b : Bool, x = .bl b ∧ i = if b = true then 1 else 0
def rNum (g : Int → Int → V) : R2 := fun x y H Q => ∃ i j, NumV x i ∧ y = .int j ∧ Q (g i j) H
theorem op_addN : OpR X (binaryOp .Add) (rNum fun i j => .int (i + j)) := by
  intro pins s σ H x y v u Q I rx ry h
  obtain ⟨i, j, rfl | ⟨b, rfl, rfl⟩, rfl, q⟩ := h
  · obtain ⟨t, rfl⟩ := rx
    obtain ⟨t2, rfl⟩ := ry
    exact add_int ⟨.int _, H, I.tok _, ⟨_, rfl⟩, q⟩
  · cases rx
    obtain ⟨t2, rfl⟩ := ry
    exact PySem.IntBool.add_bool_int ⟨.int _, H, I.tok _, ⟨_, rfl⟩, q⟩
theorem op_subN : OpR X (binaryOp .Sub) (rNum fun i j => .int (i - j)) := by
  intro pins s σ H x y v u Q I rx ry h
  obtain ⟨i, j, rfl | ⟨b, rfl, rfl⟩, rfl, q⟩ := h
  · obtain ⟨t, rfl⟩ := rx
    obtain ⟨t2, rfl⟩ := ry
    exact sub_int ⟨.int _, H, I.tok _, ⟨_, rfl⟩, q⟩
  · cases rx
    obtain ⟨t2, rfl⟩ := ry
    exact PySem.IntBool.sub_bool_int ⟨.int _, H, I.tok _, ⟨_, rfl⟩, q⟩
/-- .. == a number -/
theorem op_eqN : OpR X (compareOp .Eq) (rNum fun i j => .bl (i == j)) := by
  intro pins s σ H x y v u Q I rx ry h
  obtain ⟨i, j, rfl | ⟨b, rfl, rfl⟩, rfl, q⟩ := h
  · obtain ⟨t, rfl⟩ := rx
    obtain ⟨t2, rfl⟩ := ry
    exact PySem.EqBoolInt.of_rc (SeqAt.RcAt.int_int i t j t2) ⟨.bl _, H, I, rfl, q⟩
  · cases rx
    obtain ⟨t2, rfl⟩ := ry
    exact PySem.EqBoolInt.of_rc (SeqAt.RcAt.bool_int b j t2) ⟨.bl _, H, I, rfl, q⟩
def rNegN : V → Hp → VK → Prop := fun x H Q => ∃ i, NumV x i ∧ Q (.int (-i)) H
theorem un_negN : UnR X (unaryOp .USub) rNegN := by
  intro pins s σ H x v Q I rx h
  obtain ⟨i, rfl | ⟨b, rfl, rfl⟩, q⟩ := h
  · obtain ⟨t, rfl⟩ := rx
    exact neg_int ⟨.int _, H, I.tok _, ⟨_, rfl⟩, q⟩
  · cases rx
    unfold unaryOp
    refine wpAny_holding (wpAny_bind (m := callSpecial? (.bool b) (Str.ofString "__neg__")) (wpAny_callSpecial?_slot (name := Str.ofString "__neg__") rfl F.slot_bool_neg (wpAny_call_entry F.slot_bool_neg rfl entry_int_neg ?_ (args_int_neg _))))
    cases b
    · show wpAny _ _ (do ret (← mkInt (-0))) _ _ s
      exact wpAny_ret_mkInt (wpAny_pure ⟨.int _, H, I.tok _, ⟨_, rfl⟩, q⟩)
    · show wpAny _ _ (do ret (← mkInt (-1))) _ _ s
      exact wpAny_ret_mkInt (wpAny_pure ⟨.int _, H, I.tok _, ⟨_, rfl⟩, q⟩)
/-- str(number or boolean) -/
def rStrN : List V → Hp → VK → Prop := fun xs H Q => (∃ i : Int, xs = [.int i] ∧ i.natAbs.log2 < 1920 ∧ Q (.str (toString i)) H) ∨ ∃ b : Bool, xs = [.bl b] ∧ Q (.str (if b then "True" else "False")) H
theorem call_strN : CallR X (.type "str") rStrN := by
  intro pins s σ H xs us Q I r h
  obtain ⟨i, rfl, z, q⟩ | ⟨b, rfl, q⟩ := h
  · obtain ⟨u, rfl, t, rfl⟩ := vals1 r
    exact PySem.P.str_of_int z ⟨.str _, H, I.tok _, ⟨_, rfl⟩, q⟩
  · obtain ⟨u, rfl, e⟩ := vals1 r
    cases e
    exact PySem.P.str_of_bool ⟨.str _, H, I.tok _, ⟨_, rfl⟩, q⟩
/-- t == () -/
theorem op_eqE (hr : Room k X.A) : OpR X (compareOp .Eq) (fun x y H Q => ∃ a b xs, x = .ref a ∧ y = .ref b ∧ H a = some (.tup xs) ∧ H b = some (.tup []) ∧ Q (.bl xs.isEmpty) H) := by
  intro pins s σ H x y v u Q I rx ry h
  obtain ⟨a, b, xs, rfl, rfl, ha, hb, q⟩ := h
  cases rx
  cases ry
  obtain ⟨_, its, rv, ht⟩ := (show ObjOk X.prog X.w H s.heap a (.tup xs) from I.hok _ _ ha)
  obtain ⟨_, its2, rv2, ht2⟩ := (show ObjOk X.prog X.w H s.heap b (.tup []) from I.hok _ _ hb)
  cases rv2
  refine SeqAt.eq_tupleAt (e := fun _ => true) ht ht2 hr.units0 (fun j _ h2 => absurd h2 (by simp)) ⟨.bl _, H, I, rfl, ?_⟩
  have e : ((List.range (min its.toArray.size (#[] : Array Value).size)).all (fun _ => true) && its.toArray.size == (#[] : Array Value).size) = xs.isEmpty := by
    cases rv <;> simp
  exact e ▸ q
end
theorem upper_of : ∀ c, c < 128 → ∃ x, Unicode.upperOf c = [x] ∧ x < 128 := by
  have h : (List.range 128).all (fun c => match Unicode.upperOf c with | [x] => decide (x < 128) | _ => false) = true := by decide +kernel
  intro c hc
  have := List.all_eq_true.mp h c (List.mem_range.mpr hc)
  split at this
  · rename_i x e
    exact ⟨x, e, of_decide_eq_true this⟩
  · cases this
theorem plain_list : ∀ l : List Nat, (∀ c ∈ l, c < 128) → (l.flatMap Unicode.upperOf).length = l.length ∧ ∀ c ∈ l.flatMap Unicode.upperOf, c < 128
  | [], _ => ⟨rfl, nofun⟩
  | c :: r, h => by
    obtain ⟨x, e, hx⟩ := upper_of c (h c List.mem_cons_self)
    obtain ⟨l1, l2⟩ := plain_list r fun y hy => h y (List.mem_cons_of_mem _ hy)
    rw [List.flatMap_cons, e]
    refine ⟨by simp [l1], fun y hy => ?_⟩
    rcases List.mem_append.mp hy with hy | hy
    · rw [List.mem_singleton.mp hy]; exact hx
    · exact l2 y hy
theorem upper_list (z : Str) : (Txt.upper z).cps.toList = z.cps.toList.flatMap Unicode.upperOf := by
  show ((z.cps.mapIdx fun _ c => (Unicode.upperOf c).toArray).flatten).toList = _
  rw [Array.toList_flatten, Array.toList_mapIdx]
  have e : List.mapIdx (fun _ c => (Unicode.upperOf c).toArray) z.cps.toList = z.cps.toList.map fun c => (Unicode.upperOf c).toArray := by
    apply List.ext_getElem?
    intro i
    simp [List.getElem?_mapIdx, List.getElem?_map]
  rw [e, List.map_map]
  rfl
theorem upper_plain (z : Str) (h : ∀ c ∈ z.cps.toList, c < 128) : (Txt.upper z).length = z.length ∧ ∀ c ∈ (Txt.upper z).cps.toList, c < 128 := by
  obtain ⟨a, b⟩ := plain_list z.cps.toList h
  rw [← upper_list] at a b
  exact ⟨by rw [Array.length_toList, Array.length_toList] at a; exact a, b⟩
end Gd
end

section
set_option maxRecDepth 100000
set_option maxHeartbeats 2000000
/-! Expressions that give data and change nothing. -/
namespace Gd
open PySem PySem.Spec PyProof.Rows L2
/-- whatever has grown since H, te gives a value that reads as d -/
def EvE (M : List Addr) (te : TE) (σ : L2.St) (H : Hp) (d : PyData) : Prop := ∀ H1, Kp [] H H1 → ∀ R : V → Hp → Prop, (∀ v H2, Kp [] H1 H2 → Rep M H2 v d → R v H2) → te σ H1 R
def EvL (M : List Addr) (ta : TA) (σ : L2.St) (H : Hp) (ds : List PyData) : Prop := ∀ H1, Kp [] H H1 → ∀ R : List V → Hp → Prop, (∀ vs H2, Kp [] H1 H2 → Reps M H2 vs ds → R vs H2) → ta σ H1 R
theorem Live.grow {M : List Addr} {H H' : Hp} (l : Live M H) (k : Kp [] H H') : Live M H' := fun b hb => let ⟨o, e⟩ := l b hb; ⟨o, k b o List.not_mem_nil e⟩
section
variable {M : List Addr} {σ : L2.St} {H : Hp} {te tf : TE} {ta : TA} {d e : PyData} {ds : List PyData}
theorem EvE.run (h : EvE M te σ H d) {R : V → Hp → Prop} (q : ∀ v H2, Kp [] H H2 → Rep M H2 v d → R v H2) : te σ H R := h H .refl R q
theorem EvL.run (h : EvL M ta σ H ds) {R : List V → Hp → Prop} (q : ∀ v H2, Kp [] H H2 → Reps M H2 v ds → R v H2) : ta σ H R := h H .refl R q
theorem ev_non : EvE M (tC .non) σ H .none := fun H1 _ R q => q _ H1 .refl .non
theorem ev_bl (b : Bool) : EvE M (tC (.bl b)) σ H (.bool b) := fun H1 _ R q => q _ H1 .refl (.bl b)
theorem ev_int (i : Int) : EvE M (tC (.int i)) σ H (.int i) := fun H1 _ R q => q _ H1 .refl (.int i)
theorem ev_str (x : Str) : EvE M (tC (.str x)) σ H (.str x) := fun H1 _ R q => q _ H1 .refl (.str x)
theorem ev_var {i : Nat} {v : V} (e : σ[i]? = some (some v)) (r : Rep M H v d) : EvE M (tVar i) σ H d := fun H1 k R q => ⟨v, e, q v H1 .refl (r.keep k.same)⟩
theorem ev_nil : EvL M tNil σ H [] := fun H1 _ R q => q [] H1 .refl .nil
theorem ev_cons (h : EvE M te σ H d) (hs : EvL M ta σ H ds) : EvL M (tCons te ta) σ H (d :: ds) := fun H1 k R q =>
  h H1 k _ fun v H2 k2 r => hs H2 (k.trans k2) _ fun vs H3 k3 rs => q _ H3 (k2.trans k3) (.cons (r.keep k3.same) rs)
theorem ev_tup (l : Live M H) (h : EvL M ta σ H ds) (z : ds.length ≤ 100000) : EvE M (tTup ta) σ H (.tuple ds) := fun H1 k R q =>
  h H1 k _ fun vs H2 k2 r => ⟨by rw [r.length, sizeLine_eq]; omega, fun p hp => q _ _ (k2.trans (Kp.new hp)) (.tup (((l.grow k).grow k2).fresh hp) upd_same (r.keep (Kp.new hp)))⟩
theorem ev_lst (l : Live M H) (h : EvL M ta σ H ds) (z : ds.length ≤ 100000) : EvE M (tLstS ta) σ H (.list ds) := fun H1 k R q =>
  h H1 k _ fun vs H2 k2 r => ⟨by rw [r.length, sizeLine_eq]; omega, fun p hp ns => q _ _ (k2.trans (Kp.new hp)) (.lst (((l.grow k).grow k2).fresh hp) ns upd_same (r.keep (Kp.new hp)))⟩
theorem ev_emp (l : Live M H) : EvE M tDNewK σ H (.dict []) := fun H1 k R q p hp => q _ _ (Kp.new hp) (.emp ((l.grow k).fresh hp) upd_same)
theorem ev_neg (i : Int) : EvE M (tUn (rU fun i => .int (-i)) (tC (.int i))) σ H (.int (-i)) := fun H1 _ R q => ⟨i, rfl, q _ H1 .refl (.int _)⟩
/-- list(t) -/
theorem ev_list (l : Live M H) (h : EvE M te σ H (.tuple ds)) : EvE M (tCB rListT (tCons te tNil)) σ H (.list ds) := fun H1 k R q =>
  h H1 k _ fun v H2 k2 r => by
    cases r with
    | tup n e z => exact ⟨_, _, rfl, e, fun p hp ns => q _ _ (k2.trans (Kp.new hp)) (.lst (((l.grow k).grow k2).fresh hp) ns upd_same (z.keep (Kp.new hp)))⟩
/-- t[lo:hi], some items of it -/
theorem ev_cut {K : PySem.W.Frag} {tl th : TO} {lo hi : Option Int} (l : Live M H) (h : EvE M te σ H (.tuple ds)) (hl : ∀ H1 (R : Option Int → Hp → Prop), R lo H1 → tl σ H1 R) (hh : ∀ H1 (R : Option Int → Hp → Prop), R hi H1 → th σ H1 R) :
    ∃ a b, EvE M (tSl (rSlA K) te tl th) σ H (.tuple ((ds.drop a).take b)) := by
  by_cases w : HT.sIx ds.length 0 lo = 0 ∧ HT.sIx ds.length ds.length hi = ds.length
  · refine ⟨0, ds.length, fun H1 k R q => h H1 k _ fun v H2 k2 r => hl _ _ (hh _ _ ?_)⟩
    rw [List.drop_zero, List.take_length] at q
    cases r with
    | tup n e z =>
      rw [← z.length] at w
      exact ⟨_, _, rfl, .inl (.inl e), fun _ => q _ _ k2 (.tup n e z), fun z => absurd w z⟩
  · refine ⟨HT.sIx ds.length 0 lo, HT.sIx ds.length ds.length hi - HT.sIx ds.length 0 lo, fun H1 k R q => h H1 k _ fun v H2 k2 r => hl _ _ (hh _ _ ?_)⟩
    cases r with
    | tup n e z =>
      rw [← z.length] at w q
      exact ⟨_, _, rfl, .inl (.inl e), fun z => absurd z w, fun _ p hp => q _ _ (k2.trans (Kp.new hp)) (.tup (((l.grow k).grow k2).fresh hp) upd_same (((z.drop _).take _).keep (Kp.new hp)))⟩
theorem po_no {H1 : Hp} (R : Option Int → Hp → Prop) (h : R none H1) : tNoPart σ H1 R := h
/-- t + u -/
theorem ev_cat {K : PySem.W.Frag} {es : List PyData} (l : Live M H) (h : EvE M te σ H (.tuple ds)) (hu : EvE M tf σ H (.tuple es)) (z : ds.length + es.length ≤ 100000) : EvE M (tOp (rCatA K) te tf) σ H (.tuple (ds ++ es)) := fun H1 k R q =>
  h H1 k _ fun v H2 k2 r => hu H2 (k.trans k2) _ fun u H3 k3 r3 => by
    have r := r.keep k3.same
    cases r with
    | tup n e z1 =>
      cases r3 with
      | tup n2 e2 z2 =>
        have l1 := z1.length
        have l2 := z2.length
        refine ⟨_, _, _, _, rfl, rfl, .inl (.inl e), .inl (.inl e2), by rw [sizeLine_eq]; omega, fun h0 => ?_, fun _ h0 => ?_, fun _ _ p hp => q _ _ ((k2.trans k3).trans (Kp.new hp)) (.tup ((((l.grow k).grow k2).grow k3).fresh hp) upd_same ((z1.append z2).keep (Kp.new hp)))⟩
        · subst h0
          cases z1
          exact q _ _ (k2.trans k3) (.tup n2 e2 z2)
        · subst h0
          cases z2
          rw [List.append_nil] at q
          exact q _ _ (k2.trans k3) (.tup n e z1)
/-- v + u, two tuples that stand -/
theorem cat_v {K : PySem.W.Frag} {es : List PyData} {v u : V} {Q : VK} (l : Live M H) (r : Rep M H v (.tuple ds)) (r2 : Rep M H u (.tuple es)) (z : ds.length + es.length ≤ 100000) (q : ∀ x H', Kp [] H H' → Rep M H' x (.tuple (ds ++ es)) → Q x H') : rCatA K v u H Q := by
  cases r with
  | tup n e z1 =>
    cases r2 with
    | tup n2 e2 z2 =>
      have l1 := z1.length
      have l2 := z2.length
      refine ⟨_, _, _, _, rfl, rfl, .inl (.inl e), .inl (.inl e2), by rw [sizeLine_eq]; omega, fun h0 => ?_, fun _ h0 => ?_, fun _ _ p hp => q _ _ (Kp.new hp) (.tup (l.fresh hp) upd_same ((z1.append z2).keep (Kp.new hp)))⟩
      · subst h0
        cases z1
        exact q _ _ .refl (.tup n2 e2 z2)
      · subst h0
        cases z2
        rw [List.append_nil] at q
        exact q _ _ .refl (.tup n e z1)
/-- t[::-1] -/
theorem ev_rev (l : Live M H) (h : EvE M te σ H (.tuple ds)) : EvE M (tRevT te) σ H (.tuple ds.reverse) := fun H1 k R q =>
  h H1 k _ fun v H2 k2 r => by
    cases r with
    | tup n e z => exact ⟨_, _, rfl, e, fun p hp => q _ _ (k2.trans (Kp.new hp)) (.tup (((l.grow k).grow k2).fresh hp) upd_same (z.reverse.keep (Kp.new hp)))⟩
/-- x + "..", x a text -/
theorem ev_adds {x y : Str} (h : EvE M te σ H (.str x)) (hu : EvE M tf σ H (.str y)) (z : x.length + y.length ≤ 100000) :
    EvE M (tOp (fun x y H Q => ∃ i j, x = V.str i ∧ y = V.str j ∧ i.length + j.length ≤ sizeLine ∧ Q (.str (i ++ j)) H) te tf) σ H (.str (x ++ y)) := fun H1 k R q =>
  h H1 k _ fun v H2 k2 r => hu H2 (k.trans k2) _ fun u H3 k3 r3 => by
    cases r
    cases r3
    exact ⟨x, y, rfl, rfl, by rw [sizeLine_eq]; omega, q _ H3 (k2.trans k3) (.str _)⟩
end
section
variable {M : List Addr} {σ : L2.St} {H : Hp} {te tf : TE} {ta : TA} {d e : PyData} {ds : List PyData}
/-- x[lo:hi], x a text -/
theorem ev_cutS {tl th : TO} {lo hi : Option Int} {x : Str} (h : EvE M te σ H (.str x)) (z : x.length ≤ 100000) (hl : ∀ H1 (R : Option Int → Hp → Prop), R lo H1 → tl σ H1 R) (hh : ∀ H1 (R : Option Int → Hp → Prop), R hi H1 → th σ H1 R) :
    EvE M (tSl rSlS te tl th) σ H (.str (cutS x lo hi)) := fun H1 k R q => h H1 k _ fun v H2 k2 r => hl _ _ (hh _ _ (by cases r; exact ⟨x, rfl, by rw [sizeLine_eq]; omega, q _ H2 k2 (.str _)⟩))
/-- x.upper() -/
theorem ev_upper {K : PySem.W.Frag} {x : Str} (h : EvE M te σ H (.str x)) (z : x.length ≤ 100000) : EvE M (tBM0 K "str" (fun x xs H Q => ∃ a, x = V.str a ∧ xs = [] ∧ a.length ≤ 5592405 ∧ Q (.str (Txt.upper a)) H) te) σ H (.str (Txt.upper x)) := fun H1 k R q =>
  h H1 k _ fun v H2 k2 r => by
    cases r
    exact ⟨by first | exact .inl ⟨rfl, _, rfl⟩ | exact ⟨rfl, _, rfl⟩ | exact .inr (.inl ⟨rfl, _, rfl⟩) | trivial | exact .inr ⟨rfl, _, rfl⟩, x, rfl, rfl, by omega, q _ H2 k2 (.str _)⟩
/-- the number that d counts as -/
def num : PyData → Int
  | .int i => i
  | .bool true => 1
  | _ => 0
theorem num_of {d : PyData} {v : V} (h : isInt d = true) (r : Rep M H v d) : NumV v (num d) := by
  cases r with
  | bl b => exact .inr ⟨b, rfl, by cases b <;> rfl⟩
  | int i => exact .inl rfl
  | _ => cases h
theorem ev_num {g : Int → Int → V} {f : Int → Int → PyData} {j : Int} (hd : isInt d = true) (h : EvE M te σ H d) (hg : ∀ H1 i j, Rep M H1 (g i j) (f i j)) : EvE M (tOp (rNum g) te (tC (.int j))) σ H (f (num d) j) := fun H1 k R q =>
  h H1 k _ fun v H2 k2 r => ⟨_, j, num_of hd r, rfl, q _ H2 k2 (hg ..)⟩
theorem ev_negN (hd : isInt d = true) (h : EvE M te σ H d) : EvE M (tUn rNegN te) σ H (.int (-num d)) := fun H1 k R q =>
  h H1 k _ fun v H2 k2 r => ⟨_, num_of hd r, q _ H2 k2 (.int _)⟩
def strN (d : PyData) : Str := match d with | .bool b => if b then "True" else "False" | _ => Str.ofString (toString (num d))
theorem ev_strN (hd : isInt d = true) (hs : (num d).natAbs.log2 < 1920) (h : EvE M te σ H d) : EvE M (tCB rStrN (tCons te tNil)) σ H (.str (strN d)) := fun H1 k R q =>
  h H1 k _ fun v H2 k2 r => by
    cases r with
    | bl b => exact .inr ⟨b, rfl, q _ H2 k2 (.str _)⟩
    | int i => exact .inl ⟨i, rfl, hs, q _ H2 k2 (.str _)⟩
    | _ => cases hd
end
theorem seq_i {t u : TS} {D : Ends} {σ : L2.St} {H : Hp} (h : t { D with nx := u D } σ H) : tSeq t u D σ H := h
theorem asg_i {te : TE} {g : TG} {D : Ends} {σ : L2.St} {H : Hp} (h : te σ H fun x H1 => g x σ H1 D.nx) : tAsg te g D σ H := h
theorem lst_i {ta : TA} {σ : L2.St} {H : Hp} {Q : VK} (h : ta σ H fun xs H1 => xs.length ≤ sizeLine ∧ ∀ p, H1 p = none → p ≠ sysModules → Q (.ref p) (upd H1 p (.lst xs))) : tLstS ta σ H Q := h
end Gd
end

section
set_option maxRecDepth 100000
set_option maxHeartbeats 2000000
/-! How large parts of data are. -/
namespace Gd
open PySem PySem.Spec PyProof.Rows L2
theorem goods_iff {B : Nat} : ∀ {xs : List PyData}, goods B xs ↔ ∀ x ∈ xs, good B x
  | [] => ⟨fun _ => nofun, fun _ => trivial⟩
  | x :: r => by
    simp only [goods, List.mem_cons, forall_eq_or_imp, goods_iff (xs := r)]
theorem depthAll_le {D : Nat} : ∀ {xs : List PyData}, PyData.depthAll xs ≤ D ↔ ∀ x ∈ xs, x.depth ≤ D
  | [] => by simp [PyData.depthAll]
  | x :: r => by
    simp only [PyData.depthAll, List.mem_cons, forall_eq_or_imp, ← depthAll_le (xs := r)]
    omega
theorem wts_sub {xs ys : List PyData} (h : xs.Sublist ys) : wts xs ≤ wts ys := by
  induction h with
  | slnil => exact Nat.le_refl _
  | cons a _ ih => simp only [wts]; omega
  | cons_cons a _ ih => simp only [wts]; omega
theorem wts_append : ∀ xs ys : List PyData, wts (xs ++ ys) = wts xs + wts ys
  | [], ys => by simp [wts]
  | x :: r, ys => by
    rw [List.cons_append]
    simp only [wts, wts_append r ys]
    omega
theorem wts_reverse : ∀ xs : List PyData, wts xs.reverse = wts xs
  | [] => rfl
  | x :: r => by
    rw [List.reverse_cons, wts_append, wts_reverse r]
    simp only [wts]
    omega
theorem cut_sub {α : Type} (xs : List α) (a b : Nat) : ((xs.drop a).take b).Sublist xs := (List.take_sublist _ _).trans (List.drop_sublist _ _)
end Gd
end

section
set_option maxRecDepth 100000
set_option maxHeartbeats 2000000
/-! Exact cuts of tuples. -/
namespace Gd
open PySem PySem.Spec PyProof.Rows L2
section
variable {M : List Addr} {σ : L2.St} {H : Hp} {te : TE} {ds : List PyData}
theorem ev_cutX {K : PySem.W.Frag} {tl th : TO} {lo hi : Option Int} (l : Live M H) (h : EvE M te σ H (.tuple ds)) (hl : ∀ H1 (R : Option Int → Hp → Prop), R lo H1 → tl σ H1 R) (hh : ∀ H1 (R : Option Int → Hp → Prop), R hi H1 → th σ H1 R) :
    EvE M (tSl (rSlA K) te tl th) σ H (.tuple ((ds.drop (HT.sIx ds.length 0 lo)).take (HT.sIx ds.length ds.length hi - HT.sIx ds.length 0 lo))) := by
  by_cases w : HT.sIx ds.length 0 lo = 0 ∧ HT.sIx ds.length ds.length hi = ds.length
  · refine fun H1 k R q => h H1 k _ fun v H2 k2 r => hl _ _ (hh _ _ ?_)
    rw [w.1, w.2, List.drop_zero, Nat.sub_zero, List.take_length] at q
    cases r with
    | tup n e z =>
      rw [← z.length] at w
      exact ⟨_, _, rfl, .inl (.inl e), fun _ => q _ _ k2 (.tup n e z), fun z => absurd w z⟩
  · refine fun H1 k R q => h H1 k _ fun v H2 k2 r => hl _ _ (hh _ _ ?_)
    cases r with
    | tup n e z =>
      rw [← z.length] at w q
      exact ⟨_, _, rfl, .inl (.inl e), fun z => absurd z w, fun _ p hp => q _ _ (k2.trans (Kp.new hp)) (.tup (((l.grow k).grow k2).fresh hp) upd_same (((z.drop _).take _).keep (Kp.new hp)))⟩
/-- t[:n] -/
theorem ev_take {K : PySem.W.Frag} {th : TO} {n : Nat} (l : Live M H) (h : EvE M te σ H (.tuple ds)) (hh : ∀ H1 (R : Option Int → Hp → Prop), R (some (n : Int)) H1 → th σ H1 R) :
    EvE M (tSl (rSlA K) te tNoPart th) σ H (.tuple (ds.take n)) := by
  have := ev_cutX (K := K) (tl := tNoPart) (th := th) (lo := none) (hi := some (n : Int)) l h (fun H1 R h => po_no R h) hh
  rw [HT.sIx_none, HT.sIx_nat, List.drop_zero, Nat.sub_zero] at this
  have e : ds.take (min n ds.length) = ds.take n := by
    rw [List.take_eq_take_iff]; omega
  rwa [e] at this
/-- t[n:] -/
theorem ev_drop {K : PySem.W.Frag} {tl : TO} {n : Nat} (l : Live M H) (h : EvE M te σ H (.tuple ds)) (hl : ∀ H1 (R : Option Int → Hp → Prop), R (some (n : Int)) H1 → tl σ H1 R) :
    EvE M (tSl (rSlA K) te tl tNoPart) σ H (.tuple (ds.drop n)) := by
  have := ev_cutX (K := K) (tl := tl) (th := tNoPart) (lo := some (n : Int)) (hi := none) l h hl (fun H1 R h => po_no R h)
  rw [HT.sIx_none, HT.sIx_nat] at this
  have e : (ds.drop (min n ds.length)).take (ds.length - min n ds.length) = ds.drop n := by
    rw [List.take_of_length_le (by rw [List.length_drop]; omega)]
    by_cases h : n ≤ ds.length
    · rw [Nat.min_eq_left h]
    · rw [Nat.min_eq_right (by omega), List.drop_of_length_le (Nat.le_refl _), List.drop_of_length_le (by omega)]
  rwa [e] at this
end
theorem wts_at : ∀ {xs : List PyData} {n : Nat} {x : PyData}, xs[n]? = some x → wts xs = wts (xs.take n) + (wt x + 1) + wts (xs.drop (n + 1))
  | [], n, x, h => by simp at h
  | y :: r, 0, x, h => by
    simp only [List.getElem?_cons_zero, Option.some.injEq] at h
    subst h
    simp only [List.take_zero, List.drop_succ_cons, List.drop_zero, wts]
    omega
  | y :: r, n + 1, x, h => by
    rw [List.getElem?_cons_succ] at h
    have := wts_at h
    simp only [List.take_succ_cons, List.drop_succ_cons, wts]
    omega
end Gd
end

section
set_option maxRecDepth 100000
set_option maxHeartbeats 2000000
/-! enumerate(text), tuple(text). -/
namespace Gd
open PySem PySem.Spec PyProof.Rows L2
/-- the signs of a text, each in a new pair -/
def Ites (z : Str) : It := ⟨fun i H => i < z.cps.size, fun i H v H' => ∃ T c, v = .ref T ∧ H T = none ∧ H' = upd H T (.tup [.int (i : Nat), .str ⟨#[c]⟩]) ∧ z.cps[i]? = some c, fun i H => z.cps.size ≤ i⟩
section
variable {prog : Program} {w : World} {A : Around} {E : Value → Shared → Prop} {s : Shared}
theorem enum_endS {e it : Addr} {x : Str} {t : Tok} {ty : String} {k : Nat} {i : Int} {old : Value} {Q : Option Value → Shared → Prop} (hh : A.handled = none) (hty : ty = "str_ascii_iterator" ∨ ty = "str_iterator") (he : IsEnum s.heap e it i old)
    (hit : s.heap.IsStrIter it ty x t k) (hx : x.cps[k]? = none) (hQ : ∀ h', Heap.ExtBut it s.heap h' → Q none { s with heap := h' }) : wpAny (model prog w) A (pyNext (.ref e)) Q E s := by
  have hT : s.TypeIs (.ref e) "enumerate" := ⟨_, he, rfl⟩
  unfold pyNext
  refine wpAny_bind (wpAny_attempt (wpAny_callSpecial?_slot (name := Str.ofString "__next__") hT F.slot_enumerate_next
    (wpAny_call_entry F.slot_enumerate_next hT F.entry_enumerate_next ?_ (F.args_enumerate_next_1 _))))
  show wpAny _ _ (field (.ref e) 2 >>= _) _ _ _
  refine wpAny_bind (wpAny_field he rfl (x := .ref it) rfl ?_)
  refine wpAny_bind ?_
  rcases hty with z | z
  · rw [z] at hit
    refine wpAny_nextOf_ascii_end (A := A.in1) hh hit hx fun h' x' he' hx' => ?_
    obtain ⟨o, ho, hc⟩ := hx'
    refine wpAny_bind (wpAny_isInstance (T := "StopIteration") (b := true) ⟨o, ho, hc⟩ isSubtype_stop ?_)
    exact wpAny_pure (hQ _ he')
  · rw [z] at hit
    refine wpAny_nextOf_wide_end (A := A.in1) hh hit hx fun h' x' he' hx' => ?_
    obtain ⟨o, ho, hc⟩ := hx'
    refine wpAny_bind (wpAny_isInstance (T := "StopIteration") (b := true) ⟨o, ho, hc⟩ isSubtype_stop ?_)
    exact wpAny_pure (hQ _ he')
end
theorem turn_enumS {P : Program} {w : World} {K : PySem.W.Frag} {elts : List Expr} {kk : Nat} {tpos : Pos} (e it : Addr) (z : Str) (t : Tok) (ty : String) (hty : ty = "str_ascii_iterator" ∨ ty = "str_iterator") :
    Turn P w K (.Tuple elts kk tpos) (Ites z) [e, it] e (fun i h => (∃ old, IsEnum h e it ((i : Nat) : Int) old) ∧ h.IsStrIter it ty z t i ∧ e ≠ it) where
  mem := by simp
  obj := fun i h st b hb => by
    obtain ⟨⟨old, he⟩, ⟨o, ho, hc, hd⟩, _⟩ := st
    have e' : b = e ∨ b = it := by simpa using hb
    rcases e' with z | z
    · rw [z]; exact ⟨_, he, fun v q => nomatch q⟩
    · rw [z]; exact ⟨o, ho, fun v q => by rw [hd] at q; cases q⟩
  keep := fun i h h' st k => let ⟨⟨old, he⟩, ⟨o, ho, r⟩, hne⟩ := st; ⟨⟨old, k e (by simp) _ he⟩, ⟨o, k it (by simp) o ho, r⟩, hne⟩
  item := by
    intro X hP hw hK hc i pins s σ H E I hf st hg
    subst hP hw hK
    obtain ⟨⟨old, he⟩, hit, hne⟩ := st
    have hel : e < s.heap.objs.size := Heap.lt_size he
    have hil : it < s.heap.objs.size := by obtain ⟨_, q, _⟩ := hit; exact Heap.lt_size q
    have D : Draws X.prog X.w X.A.in1 it [it] z.cps.size (fun i v => ∃ c u, z.cps[i]? = some c ∧ v = .str ⟨#[c]⟩ u) (fun i h => h.IsStrIter it ty z t i) := by
      rcases hty with q | q
      · rw [q]; exact Draws.strAscii (A := X.A.in1) (I.ok.hd hc) it z t
      · rw [q]; exact Draws.strWide (A := X.A.in1) (I.ok.hd hc) it z t
    refine wpAny_pyNext_enum_itemD D he hit hg hne (by simpa using hne) fun v h' tk hv ho hit' hT hsz hk => ?_
    obtain ⟨c, u, hcx, rfl⟩ := hv
    refine ⟨_, rfl, wpAny_letOwnedTupleGo_enum (s := { s with heap := h', toks := tk + 1 }) ho fun h'' he' sb => ?_⟩
    have hT2 : h''.get? s.heap.objs.size = some { cls := .type "tuple", data := .seq #[.int i tk, .str ⟨#[c]⟩ u] } := (sb.2 _ (Nat.ne_of_gt hel)).trans hT
    have new : ObjOk X.prog X.w (upd H s.heap.objs.size (.tup [.int (i : Nat), .str ⟨#[c]⟩])) h'' s.heap.objs.size (.tup [.int (i : Nat), .str ⟨#[c]⟩]) :=
      ⟨by show 2 ≤ sizeLine; decide, [.int i tk, .str ⟨#[c]⟩ u], .cons ⟨_, rfl⟩ (.cons ⟨_, rfl⟩ .nil), ⟨_, hT2, rfl, _, rfl⟩⟩
    have I1 : Inv X pins σ (upd H s.heap.objs.size (.tup [.int (i : Nat), .str ⟨#[c]⟩])) { s with heap := h'', toks := tk + 1 } :=
      I.turnedNew (ch := [e, it]) (fun b ob hb q => (sb.2 b (fun z => hb (by simp [z]))).trans (hk b ob (fun z => hb (by simp [z])) (fun z => hb (by simp [z])) q)) hf (Nat.le_refl _) new
    refine ⟨.ref s.heap.objs.size, _, I1, rfl, ⟨_, c, rfl, I.hok.fresh (Nat.le_refl _), rfl, hcx⟩, ⟨⟨.str ⟨#[c]⟩ u, ?_⟩, ?_, hne⟩, fun b hb => ?_⟩
    · have e1 : ((i + 1 : Nat) : Int) = (i : Int) + 1 := by omega
      rw [e1]; exact he'
    · obtain ⟨o, ho, r⟩ := hit'
      exact ⟨o, (sb.2 it (Ne.symm hne)).trans ho, r⟩
    · have hb' : b < s.heap.objs.size := by
        have e' : b = e ∨ b = it := by simpa using hb
        rcases e' with z | z
        · rw [z]; exact hel
        · rw [z]; exact hil
      rw [upd_ne (Nat.ne_of_lt hb')]
      exact (hf b hb).1
  done := by
    intro X hP hw hK hc i pins s σ H E I hf st hg
    subst hP hw hK
    obtain ⟨⟨old, he⟩, hit, hne⟩ := st
    obtain ⟨f0, f1, f2, f3, f4, f5⟩ := hf it (by simp)
    exact enum_endS (I.ok.hd hc) hty he hit (Array.getElem?_eq_none hg) fun h' eb => ⟨rfl, I.turned (t' := s.toks) (fun b o hb q => eb b o hb q) f0 f1 f3 f4 f5⟩
  self := fun A i s Q E st h => let ⟨⟨_, he⟩, _⟩ := st; wpAny_pyIter_enum he h
def iEnumS (ta : TA) : TI := fun σ H R => ta σ H fun vs H1 => ∃ z, vs = [.str z] ∧ R (Ites z) H1
theorem pi_enumS {X : Cx} {e : Expr} {ta : TA} {p pos tpos : Pos} {elts : List Expr} {kk : Nat} (hg : Gl X "enumerate") (hm : X.mg "enumerate" = none) (ha : PA X [e] ta) (hs : starEach [e] X.env = [(false, eval e X.env)] := by rfl) :
    PI X (.Tuple elts kk tpos) (.Call (.Name "enumerate" p) [e] [] pos) (iEnumS ta) := by
  refine ⟨fun pins s σ H R I h => ?_⟩
  refine Call_ (ld_blt I hg hm boot_enumerate (PyProof.Rows.callWith_type1 (thn (ha.run pos pins s σ H _ I h) fun us s1 ⟨vs, H1, I1, r1, q1⟩ => ?_) hs rfl))
  obtain ⟨z, ex, q⟩ := q1
  subst ex
  cases r1 with
  | cons r rr =>
    cases rr
    obtain ⟨t, rfl⟩ := r
    refine call_enumerate_str fun h' he hit hsz hk => wpAny_pyIter_enum he ?_
    have I2 : Inv X pins σ H1 { s1 with heap := h' } := I1.kept (t' := s1.toks) hk
    have hty : strIterType z = "str_ascii_iterator" ∨ strIterType z = "str_iterator" := by
      unfold strIterType
      split
      · exact .inl rfl
      · exact .inr rfl
    refine ⟨s1.heap.objs.size + 1, [s1.heap.objs.size + 1, s1.heap.objs.size], _, _, H1, rfl, I2, turn_enumS (s1.heap.objs.size + 1) s1.heap.objs.size z t _ hty, ⟨⟨.none, he⟩, hit, Nat.succ_ne_self _⟩, fun b hb => ?_, q⟩
    have e' : b = s1.heap.objs.size + 1 ∨ b = s1.heap.objs.size := by simpa using hb
    have hle : s1.heap.objs.size ≤ b := by
      rcases e' with z | z
      · rw [z]; exact Nat.le_add_right _ _
      · rw [z]; exact Nat.le_refl _
    exact I1.fpOk hle (I1.hok.fresh hle)
theorem walk_enumS {z : Str} : Walk (Ites z) z.cps.size (fun _ => True) (YPair (fun i => some (.int (i : Nat))) (fun i => (z.cps.toList.map fun c => V.str ⟨#[c]⟩)[i]?)) := by
  refine ⟨fun i _ hi q => hi, fun _ q => Nat.le_refl _, fun i H v H' _ q y => ?_⟩
  obtain ⟨T, c, h1, h2, h3, h4⟩ := y
  exact ⟨T, .int (i : Nat), .str ⟨#[c]⟩, h1, h2, h3, rfl, by show (z.cps.toList.map fun c => V.str ⟨#[c]⟩)[i]? = _; rw [List.getElem?_map, Array.getElem?_toList, h4]; rfl⟩
section
variable {X : Cx}
/-- tuple(text) -/
theorem call_tuple_str (hc : X.calm = true) : CallR X (.type "tuple") (fun xs H Q => ∃ z, xs = [.str z] ∧ z.length ≤ sizeLine ∧ ∀ p, H p = none → Q (.ref p) (upd H p (.tup (z.cps.toList.map fun c => V.str ⟨#[c]⟩)))) := by
  intro pins s σ H xs us Q I r h
  obtain ⟨z, rfl, hz, q⟩ := h
  obtain ⟨u, rfl, t, rfl⟩ := vals1 r
  refine PySem.call_tuple_str (I.ok.hd hc) z t (fun h' tk acc hk hi => ?_) hz
  have I1 : Inv X pins σ H { s with heap := h', toks := tk } := I.kept (t' := tk) hk
  have rv : Vals (z.cps.toList.map fun c => V.str ⟨#[c]⟩) acc.toList := by
    refine vals_of_at (by rw [List.length_map, Array.length_toList, Array.length_toList, hi.1]) fun j x u e1 e2 => ?_
    rw [Array.getElem?_toList] at e2
    obtain ⟨c, t, ec, rfl⟩ := hi.2 j u e2
    rw [List.getElem?_map, Array.getElem?_toList, ec] at e1
    cases e1
    exact ⟨t, rfl⟩
  have I2 : Inv X pins σ (upd H h'.objs.size (.tup (z.cps.toList.map fun c => V.str ⟨#[c]⟩))) { s with heap := h'.push { cls := .type "tuple", data := .seq acc }, toks := tk } :=
    I1.laid (t' := tk) (fun b o e => Heap.get?_push_of_some _ e) (Nat.le_refl _) (show ObjOk X.prog X.w _ _ _ (.tup _) from ⟨by rw [List.length_map, Array.length_toList]; exact hz, acc.toList, rv, by
      have := IsTup.new h' acc
      simpa using this⟩)
  exact ⟨.ref h'.objs.size, _, I2, rfl, q _ (I1.hok.fresh (Nat.le_refl _))⟩
end
end Gd
end

section
set_option maxRecDepth 100000
set_option maxHeartbeats 2000000
/-! Items of data, lists of data that comprehensions make. -/
namespace Gd
open PySem PySem.Spec PyProof.Rows L2
theorem Reps.atI {M : List Addr} {H : Hp} {vs : List V} {ds : List PyData} {i : Int} {d : PyData} (r : Reps M H vs ds) (e : L2.atI ds i = some d) : ∃ v, L2.atI vs i = some v ∧ Rep M H v d := by
  have l := r.length
  unfold L2.atI at e ⊢
  rw [l]
  obtain ⟨j, ej, e⟩ := Option.bind_eq_some_iff.mp e
  rw [ej]
  exact r.at' e
theorem atI_last {α : Type} {xs : List α} (h : 0 < xs.length) : ∃ d, L2.atI xs (-1) = some d ∧ d ∈ xs := by
  unfold L2.atI L2.ixN
  rw [if_neg (by decide)]
  have e : ∀ (c : Prop) [Decidable c], c → (if c then some ((-1 : Int) + xs.length).toNat else none) = some (xs.length - 1) := fun c _ hc => by
    rw [if_pos hc]; congr 1; omega
  rw [e _ (by omega)]
  exact ⟨xs[xs.length - 1], by simp [h], List.getElem_mem _⟩
section
variable {M : List Addr} {σ : L2.St} {H : Hp} {te tf ti : TE} {ta : TA} {d e : PyData} {ds : List PyData}
theorem ev_ix {K : PySem.W.Frag} {i : Int} (h : EvE M te σ H (.tuple ds)) (hi : ∀ H1 (R : V → Hp → Prop), R (.int i) H1 → ti σ H1 R) (e : L2.atI ds i = some d) : EvE M (tOp (rIxT K) te ti) σ H d := fun H1 k R q =>
  h H1 k _ fun v H2 k2 r => hi _ _ (by
    cases r with
    | tup n e1 z =>
      obtain ⟨v, ev, rv⟩ := z.atI e
      exact ⟨_, _, i, v, rfl, rfl, .inl (.inl e1), ev, q v H2 k2 rv⟩)
theorem ev_tupS {x : Str} (l : Live M H) (h : EvE M te σ H (.str x)) (z : x.length ≤ 100000) :
    EvE M (tCB (fun xs H Q => ∃ z, xs = [V.str z] ∧ z.length ≤ sizeLine ∧ ∀ p, H p = none → Q (.ref p) (upd H p (.tup (z.cps.toList.map fun c => V.str ⟨#[c]⟩)))) (tCons te tNil)) σ H (.tuple ((x.cps.toList.map fun c => (⟨#[c]⟩ : Str)).map .str)) := fun H1 k R q =>
  h H1 k _ fun v H2 k2 r => by
    cases r
    refine ⟨x, rfl, by rw [sizeLine_eq]; omega, fun p hp => q _ _ (k2.trans (Kp.new hp)) (.tup (((l.grow k).grow k2).fresh hp) upd_same ?_)⟩
    have := Reps.of_strs (M := M) (H := upd H2 p (.tup (x.cps.toList.map fun c => V.str ⟨#[c]⟩))) (x.cps.toList.map fun c => (⟨#[c]⟩ : Str))
    rw [List.map_map] at this
    exact this
def rTupOf (K : PySem.W.Frag) : List V → Hp → VK → Prop := fun xs H Q => ∃ p ys, xs = [V.ref p] ∧ ((SqL K H p ys ∧ ∀ l, H l = none → Q (.ref l) (upd H l (.tup ys))) ∨ (SqT K H p ys ∧ Q (.ref p) H))
theorem call_tuple_ofK {X : Cx} {K : PySem.W.Frag} (h : X.K = K) : CallR X (.type "tuple") (rTupOf K) := h ▸ call_tuple_of
theorem sl_listK {X : Cx} {K : PySem.W.Frag} (h : X.K = K) : SlR X (rSlL K) := h ▸ sl_list
/-- tuple(list[lo:hi]) -/
theorem ev_tupL {K : PySem.W.Frag} {i : Nat} {p : Addr} {vs : List V} {tl th : TO} {lo hi : Option Int} (l : Live M H) (ei : σ[i]? = some (some (.ref p))) (ep : H p = some (.lst vs)) (r : Reps M H vs ds) (hl : ∀ H1 (R : Option Int → Hp → Prop), R lo H1 → tl σ H1 R) (hh : ∀ H1 (R : Option Int → Hp → Prop), R hi H1 → th σ H1 R) :
    ∃ a b, EvE M (tCB (rTupOf K) (tCons (tSl (rSlL K) (tVar i) tl th) tNil)) σ H (.tuple ((ds.drop a).take b)) := by
  refine ⟨HT.sIx ds.length 0 lo, HT.sIx ds.length ds.length hi - HT.sIx ds.length 0 lo, fun H1 k R q => ⟨_, ei, hl _ _ (hh _ _ ⟨p, vs, rfl, .inl (.inl (k _ _ List.not_mem_nil ep)), fun b hb => ?_⟩)⟩⟩
  refine ⟨b, _, rfl, .inl ⟨.inl (.inl upd_same), fun c hc => ?_⟩⟩
  have kk := (Kp.new (M := []) hb (o := .lst (cutV vs lo hi))).trans (Kp.new hc (o := .tup (cutV vs lo hi)))
  refine q _ _ kk (.tup ((((l.grow k).grow (Kp.new hb))).fresh hc) upd_same ?_)
  unfold cutV
  rw [← r.length] at *
  exact ((r.drop _).take _).keep ((k.trans kk).same)
end
section
variable {J : It} {n : Nat} {G : Hp → Prop} {Y : Nat → Hp → V → Hp → Prop} {g : TG} {te : TE} {vs : List Nat} {σ : L2.St} {H1 : Hp} {D : Addr} {Qd : Hp → Prop} {M : List Addr} {P : PyData → Prop}
/-- items that read as data, found without a change -/
theorem lc_data (w : Walk J n G Y) (hn : n ≤ sizeLine) (hD : H1 D = none) (hG : ∀ H, Kp [] H1 H → G H)
    (hs : ∀ i x H H', i < n → Kp [] H1 H → (∃ o, H D = some o) → Y i H x H' → ∀ Kt : V → Hp → Prop, (∀ y d H4, Kp [] H H4 → Rep (D :: M) H4 y d → P d → Kt y H4) → g x (wipe σ vs) H' fun σ2 H2 => wipe σ2 vs = wipe σ vs ∧ te σ2 H2 Kt)
    (hd : ∀ acc ds H, Kp [] H1 H → H D = some (.lst acc) → acc.length = n → Reps (D :: M) H acc ds → (∀ y ∈ ds, P y) → Qd H) :
    ∃ W : Nat → Nat → Hp → Prop, (∃ m, W 0 m (upd H1 D (.lst []))) ∧ ∀ i m H, W i m H →
      (J.stop i H ∧ Qd H) ∨ (J.go i H ∧ ∃ Nx : Hp → Prop, (∀ H', Nx H' → ∃ m', m' < m ∧ W (i + 1) m' H') ∧ ∀ x H', J.yld i H x H' → g x (wipe σ vs) H' fun σ2 H2 => wipe σ2 vs = wipe σ vs ∧ tYes σ2 H2 fun b H3 =>
        if b = true then te σ2 H3 fun y H4 => ∃ acc, H4 D = some (.lst acc) ∧ acc.length < sizeLine ∧ Nx (upd H4 D (.lst (acc ++ [y]))) else Nx H3) := by
  refine lc_by w hn (fun i acc H => Kp [] H1 H ∧ H D = some (.lst acc) ∧ acc.length = i ∧ ∃ ds, Reps (D :: M) H acc ds ∧ ∀ y ∈ ds, P y) ⟨Kp.new hD, upd_same, rfl, [], .nil, nofun⟩ (fun i acc H _ p => hG H p.1) (fun i acc H p => ⟨p.2.2.1, p.2.1⟩) (fun i acc x H H' hi p y Kt q => ?_) fun acc H p => let ⟨a, b, c, ds, r, h⟩ := p; hd acc ds H a b c r h
  obtain ⟨k, ed, el, ds, r, hr⟩ := p
  refine hs i x H H' hi k ⟨_, ed⟩ y Kt fun y d H4 k4 ry py => ?_
  have e4 := k4 D _ List.not_mem_nil ed
  have kp : Kp (D :: M) H4 (upd H4 D (.lst (acc ++ [y]))) := Kp.put List.mem_cons_self
  refine q _ H4 e4 ⟨fun c o nc ec => ?_, upd_same, by simp [el], ds ++ [d], ((r.keep k4.same).append (.cons ry .nil)).keep kp, fun z hz => ?_⟩
  · rw [upd_ne (ne_of_none ec hD)]
    exact k4 c o nc (k c o nc ec)
  · rcases List.mem_append.mp hz with hz | hz
    · exact hr z hz
    · rw [List.mem_singleton.mp hz]; exact py
end
section
variable {K : PySem.W.Frag} {te0 te : TE} {g : TG} {vs : List Nat} {σ : L2.St} {H : Hp} {Q : VK} {M : List Addr} {P : PyData → Prop}
/-- [.. for x in t] -/
theorem lc_tupD {xs : List V} (h0 : ∀ R : V → Hp → Prop, (∀ a H1, Kp [] H H1 → H1 a = some (.tup xs) → R (.ref a) H1) → te0 σ H R) (hn : xs.length ≤ sizeLine)
    (hs : ∀ (m : Nat) x D H', xs[m]? = some x → Kp [] H H' → H D = none → (∃ o, H' D = some o) → ∀ Kt : V → Hp → Prop, (∀ y d H3, Kp [] H' H3 → Rep (D :: M) H3 y d → P d → Kt y H3) → g x (wipe σ vs) H' fun σ2 H2 => wipe σ2 vs = wipe σ vs ∧ te σ2 H2 Kt)
    (q : ∀ D acc ds H', Kp [] H H' → H D = none → H' D = some (.lst acc) → acc.length = xs.length → Reps (D :: M) H' acc ds → (∀ d ∈ ds, P d) → Q (.ref D) H') : tLc (iTup K te0) g tYes te vs σ H Q := by
  refine h0 _ fun a H1 k1 ha => ⟨a, rfl, ⟨xs, .inl (.inl ha)⟩, fun D hD => ?_⟩
  have nD : H D = none := by
    cases c : H D with
    | none => rfl
    | some o => have := k1 D o List.not_mem_nil c; rw [hD] at this; cases this
  refine lc_data (M := M) (P := P) (walk_tup (K := K) (a := a) (xs := xs)) hn hD (fun H' k => .inl (.inl (k a _ List.not_mem_nil ha))) (fun i x H' H2 hi k eD y Kt q => ?_) fun acc ds H' k e l r h => q D acc ds H' (k1.trans k) nD e l r h
  obtain ⟨rfl, ex⟩ := y
  exact hs i x D _ ex (k1.trans k) nD eD Kt q
/-- [.. for c in text] -/
theorem lc_strD {z : Str} (h0 : ∀ R : V → Hp → Prop, R (.str z) H → te0 σ H R) (hn : z.cps.size ≤ sizeLine)
    (hs : ∀ (m : Nat) c D H', z.cps[m]? = some c → Kp [] H H' → H D = none → (∃ o, H' D = some o) → ∀ Kt : V → Hp → Prop, (∀ y d H3, Kp [] H' H3 → Rep (D :: M) H3 y d → P d → Kt y H3) → g (.str ⟨#[c]⟩) (wipe σ vs) H' fun σ2 H2 => wipe σ2 vs = wipe σ vs ∧ te σ2 H2 Kt)
    (q : ∀ D acc ds H', Kp [] H H' → H D = none → H' D = some (.lst acc) → acc.length = z.cps.size → Reps (D :: M) H' acc ds → (∀ d ∈ ds, P d) → Q (.ref D) H') : tLc (iStr te0) g tYes te vs σ H Q := by
  refine h0 _ ⟨z, rfl, fun D hD => ?_⟩
  refine lc_data (M := M) (P := P) (walk_str (z := z)) hn hD (fun _ _ => trivial) (fun i x H' H2 hi k eD y Kt q => ?_) fun acc ds H' k e l r h => q D acc ds H' k hD e l r h
  obtain ⟨rfl, c, ec, rfl⟩ := y
  exact hs i c D _ ec k hD eD Kt q
end
end Gd
end

section
set_option maxRecDepth 100000
set_option maxHeartbeats 2000000
/-! sorted(list) of data of one shape. -/
namespace Gd
open PySem PySem.Spec PyProof.Rows L2
theorem each_of {M : List Addr} {H : Hp} : ∀ {us : List V} {its : List Value} {ds : List PyData}, Vals us its → Reps M H us ds → W.EachIs (fun u (b : V × PyData) => RelV b.1 u ∧ Rep M H b.1 b.2) its (us.zip ds)
  | _, _, _, .nil, .nil => .nil
  | _, _, _, .cons r rs, .cons z zs => .cons ⟨r, z⟩ (each_of rs zs)
theorem of_each {M : List Addr} {H : Hp} : ∀ {out : List Value} {cs : List (V × PyData)}, W.EachIs (fun u (b : V × PyData) => RelV b.1 u ∧ Rep M H b.1 b.2) out cs → Vals (cs.map Prod.fst) out ∧ Reps M H (cs.map Prod.fst) (cs.map Prod.snd)
  | _, _, .nil => ⟨.nil, .nil⟩
  | _, _, .cons h t => ⟨.cons h.1 (of_each t).1, .cons h.2 (of_each t).2⟩
theorem zip_snd {M : List Addr} {H : Hp} : ∀ {us : List V} {ds : List PyData}, Reps M H us ds → (us.zip ds).map Prod.snd = ds
  | _, _, .nil => rfl
  | _, _, .cons _ zs => by rw [List.zip_cons_cons, List.map_cons, zip_snd zs]
/-- the data in their sequence -/
def sortD (ds : List PyData) : List PyData := ds.mergeSort fun a b => !W.dataLt b a
def rSortD (K : PySem.W.Frag) : List V → Hp → VK → Prop := fun xs H Q => ∃ (M : List Addr) (a : Addr) (us : List V) (ds : List PyData), xs = [V.ref a] ∧ SqL K H a us ∧ Reps M H us ds ∧ W.AllAlike ds ∧ W.Sortable ds ∧ (∀ d ∈ ds, d.depth ≤ 60) ∧
  ∀ (p : Addr) (us' : List V), us'.length = us.length → Reps M H us' (sortD ds) → H p = none → Q (.ref p) (upd H p (.lst us'))
section
variable {X : Cx} {k : Nat}
theorem cr_sortedD {K : PySem.W.Frag} (hK : X.K = K) (hr : Room k X.A) : CallR X (.builtin "sorted") (rSortD K) := by
  subst hK
  intro pins s σ H vs ws Q I r h
  obtain ⟨M, a, us, ds, rfl, hs, rp, al, so, dp, q⟩ := h
  obtain ⟨its, rv, hl, hz⟩ := I.list hs
  rw [Vals.ref1 r]
  have un := hr.un
  have hm := zip_snd rp
  have lu := rp.length
  have e := each_of rv rp
  refine W.sorted_data (enc := Prod.snd) (bs := us.zip ds) hl.isList e (e.mono fun u b ⟨h1, h2⟩ => let ⟨as, z, _⟩ := Rep.reads I h2 h1; ⟨as, z⟩) (by rw [hm]; exact al) (by rw [hm]; exact so) (by rw [List.length_zip, ← lu, Nat.min_self]; exact hz) (fun b hb => ?_) fun out ho eo => ?_
  · have : b.2 ∈ ds := hm ▸ List.mem_map.mpr ⟨b, hb, rfl⟩
    have := dp _ this
    omega
  · obtain ⟨v1, r1⟩ := of_each eo
    have es : ((us.zip ds).mergeSort (W.dataLe false Prod.snd)).map Prod.snd = sortD ds := by
      have t := W.sort_maps (r := W.dataLe false (Prod.snd : V × PyData → PyData)) (s := fun a b => !W.dataLt b a) (l := us.zip ds) Prod.snd fun a _ b _ => rfl
      rw [hm] at t
      exact t
    rw [es] at r1
    have l1 := r1.length
    have l2 : (sortD ds).length = ds.length := List.length_mergeSort _
    obtain ⟨ep, he'⟩ := PyProof.Rows.sortedAll_at s.heap its out.toArray
    exact ⟨.ref _, upd H (s.heap.objs.size + 1) (.lst _), I.laid (t' := s.toks) (fun _ _ => PyProof.Rows.sortedAll_old) (Nat.le_succ _) ⟨by rw [l1, l2, ← lu]; exact hz, out, ep, v1, he'⟩, rfl, q _ _ (by rw [l1, l2, lu]) r1 (I.hok.fresh (Nat.le_succ _))⟩
end
theorem sortD_perm (ds : List PyData) : (sortD ds).Perm ds := List.mergeSort_perm _ _
end Gd
end

section
set_option maxRecDepth 100000
set_option maxHeartbeats 4000000
/-! set(list of whole numbers); a list beside []. -/
namespace Gd
open PySem PySem.Spec PyProof.Rows L2
/-- the set as it is made -/
abbrev nu (w : World) : Obj := { cls := .type "set", dict := none, data := .set #[] 0 (.fresh 0 0 (!w.params.followText "set-order")) }
section
variable {P : Program} {w : World} {A : Around} {E : Value → Shared → Prop} {s : Shared}
/-- what set.__init__ leaves -/
abbrev Fill (w : World) (s : Shared) (ns : List Int) (E : Value → Shared → Prop) : Result → Shared → Prop := wants (fun r z => r = .none ∧ ∃ g k c, z = { s with heap := g, toks := k } ∧ SetR w g s.heap.objs.size (fun j => decide (j ∈ ns)) c ∧ c ≤ ns.length ∧ ∀ b o, s.heap.get? b = some o → g.get? b = some o) E
theorem set_of_ints {l : Addr} {its : Array Value} {ns : List Int} {G : Value → Shared → Prop} (off : A.handled = none) (hl : s.heap.IsList l its) (iv : IntsAre its.toList ns) (few : ns.length + 1 < scanBound)
    (go : ∀ (g : Heap) (k c : Nat), SetR w g s.heap.objs.size (fun j => decide (j ∈ ns)) c → c ≤ ns.length → (∀ b o, s.heap.get? b = some o → g.get? b = some o) → G (.ref s.heap.objs.size) { s with heap := g, toks := k }) :
    wpAny (model P w) A (call (.type "set") [.ref l]) G E s := by
  have n_its : its.size = ns.length := by rw [← iv.length, Array.length_toList]
  have at0 : (s.heap.push (nu w)).get? s.heap.objs.size = some (nu w) := Heap.get?_push_size _ rfl
  have big : (s.heap.push (nu w)).objs.size = s.heap.objs.size + 1 := Heap.size_push ..
  obtain ⟨cm, tm, hmro⟩ := F.called_set.mro
  have k1 := F.called_set.made; have k2 := F.called_set.sub
  refine wpAny_call (codeAny_of_tree (show wpAny _ _ (callAny (.type "set") _) _ _ _ from wpAny_pure ⟨Code.quiet_builtin _ (by decide +kernel), codeAny_builtin F.entry_type_call ?_⟩))
  rw [Around.under_plain (weight_type_call_type "set" [.ref l] []) rfl]
  have k3 := F.called_set.notType; have k4 := F.called_set.canCreate; have k5 := F.typeCall_set_1 (.ref l)
  repeat (any_goals (first | assumption | wp_step))
  refine codeAny_mono (code_set_led1 (.ref l) (E := E) (Q₁ := fun x z => x = .ref s.heap.objs.size ∧ z = { s with heap := s.heap.push (nu w) }) ⟨rfl, rfl⟩) fun r z hr => ?_
  match r, hr with
  | .error e, hr => exact hr
  | .ok (.ret x), hr =>
    obtain ⟨rfl, rfl⟩ := hr
    have ty : Shared.TypeIs { s with heap := s.heap.push (nu w) } (.ref s.heap.objs.size) "set" := ⟨_, at0, rfl⟩
    have k6 := F.called_set.init.lookup; have k7 := F.called_set.init.bind (.ref s.heap.objs.size)
    repeat (any_goals (first | assumption | wp_step))
    refine codeAny_mono (codeAny_call_builtin (R := Fill w s ns E) F.called_set.init.plain F.entry_set_init (check_set_init_1 ty ?_)) fun r2 z2 hr2 => ?_
    · obtain ⟨⟨c0, d0, dt, sl⟩, hol, hc, m, hd⟩ := hl
      simp only at hc hd
      subst hc hd
      have lk := Heap.get?_push_of_some (nu w) hol
      have at1 : (s.heap.push (nu w)).IsList l its := ⟨_, lk, rfl, m, rfl⟩
      have low : l < s.heap.objs.size := Heap.lt_size hol
      have p1 := PySem.F.sub_list_set; have p2 := PySem.F.sub_list_frozenset
      have p3 : (Value.type "list" == Value.type "dict") = false := by decide
      unfold Builtin.«set.__init__» noKeywords Builtin.Frozenset.updateFrom
      generalize hPI : pyIter = PI
      wp_walk
      subst hPI
      refine wpAny_pyIter_list at1 (wpAny_bind (wpAny_runValue ?_))
      have off3 : A.in1.in1.in1.handled = none := by simp [off]
      have apart : l ≠ (s.heap.push (nu w)).objs.size := by rw [big]; exact Nat.ne_of_lt (Nat.lt_succ_of_lt low)
      have mine : s.heap.objs.size ∉ [(s.heap.push (nu w)).objs.size, l] := fun z => by
        rcases List.mem_cons.mp z with z | z
        · exact absurd (z.trans big) (Nat.ne_of_lt (Nat.lt_succ_self _))
        · exact absurd (List.mem_singleton.mp z) (Nat.ne_of_gt low)
      refine set_update_ints ((Walks.list off3 _ l apart its).toS) s.heap.objs.size mine ns n_its few (fun i v hv => ?_) (its.size - 0) 0 _ (by omega) (Nat.zero_le _) ⟨⟨_, Heap.get?_push_size _ rfl, rfl, rfl⟩, at1.push _⟩
        ⟨0, Nat.le_refl 0, setR_new_at (Heap.get?_push_of_some _ at0)⟩ fun z c mv hc hS => ?_
      · obtain ⟨t, e⟩ := iv.int_at i v (by rw [Array.getElem?_toList]; exact hv)
        have hi : i < ns.length := by rw [← n_its]; exact (Array.getElem?_eq_some_iff.mp hv).1
        exact ⟨ns[i], t, List.getElem?_eq_getElem hi, by rw [e, List.getD_eq_getElem?_getD, List.getElem?_eq_getElem hi]; rfl⟩
      · obtain ⟨g, g2, d2, k, o2⟩ := z
        obtain rfl : g2 = s.gens := mv.gens
        obtain rfl : d2 = s.drawn := mv.drawn
        obtain rfl : o2 = s.os := mv.os
        refine wpAny_pure (show wpAny _ _ (ret Value.none) _ _ _ from wpAny_pure ⟨rfl, g, k, c, rfl, hS, by omega, fun b o e => ?_⟩)
        have hb := Heap.lt_size e
        exact mv.heap b o (fun z => by
          rcases List.mem_cons.mp z with z | z
          · exact absurd z (Nat.ne_of_lt hb)
          · exact absurd ((List.mem_singleton.mp z).trans big) (Nat.ne_of_lt (Nat.lt_succ_of_lt hb))) (Heap.get?_push_of_some _ (Heap.get?_push_of_some _ e))
    · match r2, hr2 with
      | .error e, hr2 => exact hr2
      | .ok (.ret x), hr2 =>
        obtain ⟨rfl, g, k, c, rfl, hS, hc, kp⟩ := hr2
        repeat (any_goals (first | assumption | wp_step))
        exact go g k c hS hc kp
end
def rSetI (K : PySem.W.Frag) (w : World) : List V → Hp → VK → Prop := fun xs H Q => ∃ (a : Addr) (ns : List Int), xs = [V.ref a] ∧ SqL K H a (ns.map V.int) ∧ ns.length < 1000 ∧
  ∀ (p : Addr) (c : Nat), H p = none → c ≤ ns.length → Q (.ref p) (upd H p (SetO w p (fun j => decide (j ∈ ns)) c))
/-- l != [] -/
def rNeLE : R2 := fun x y H Q => ∃ a b xs, x = .ref a ∧ y = .ref b ∧ H a = some (.lst xs) ∧ H b = some (.lst []) ∧ Q (.bl (!xs.isEmpty)) H
section
variable {X : Cx} {k : Nat}
theorem cr_setI {K : PySem.W.Frag} {w : World} (hK : X.K = K) (hw : X.w = w) (hc : X.calm = true) : CallR X (.type "set") (rSetI K w) := by
  subst hK hw
  intro pins s σ H xs us Q I r h
  obtain ⟨a, ns, rfl, hs, few, q⟩ := h
  obtain ⟨its, rv, hl, _⟩ := I.list hs
  rw [Vals.ref1 r]
  refine set_of_ints (ns := ns) (I.ok.hd hc) hl.isList (by simpa using rv.ints) (by unfold scanBound; omega) fun g t c R hc' kp => ?_
  exact ⟨.ref _, _, I.laid (t' := t) kp (Nat.le_refl _) (setO_new R), rfl, q _ c (I.hok.fresh (Nat.le_refl _)) hc'⟩
theorem op_neLE (hr : Room k X.A) : OpR X (compareOp .NotEq) rNeLE := by
  intro pins s σ H x y v u Q I rx ry h
  obtain ⟨a, b, xs, rfl, rfl, ha, hb, q⟩ := h
  cases rx
  cases ry
  obtain ⟨its, r1, p1, _⟩ := I.list (.inl (.inl ha))
  obtain ⟨its2, r2, p2, _⟩ := I.list (.inl (.inl hb))
  cases r2
  have un := hr.un
  cases its with
  | nil =>
    cases r1
    exact SeqAt.RcNeAt.lists (e := fun _ => true) p1.isList p2.isList rfl (by omega) (fun j h1 _ => absurd h1 (by simp)) _ _ _ _ ⟨.bl _, H, I, rfl, q⟩
  | cons u us =>
    cases r1
    exact SeqAt.RcNeAt.lists_lengths p1.isList p2.isList (by simp) (by omega) _ _ _ _ ⟨.bl _, H, I, rfl, q⟩
theorem ix_listK {K : PySem.W.Frag} (h : X.K = K) : IxR X (rIxL K) := h ▸ ix_list
theorem ix_tupK {K : PySem.W.Frag} (h : X.K = K) : IxR X (rIxT K) := h ▸ ix_tup
end
end Gd
end

section
set_option maxRecDepth 100000
set_option maxHeartbeats 2000000
/-! isinstance(x, bool); slices of tuples or lists; all(..) over zip of two lists. -/
namespace Gd
open PySem PySem.Spec PyProof.Rows L2 RZ
def isBool : PyData → Bool
  | .bool _ => true
  | _ => false
theorem kit_bool {K : W.Frag} : ∀ d : PyData, W.kitOne K (.type (tyN d)) (.type "bool") = some (isBool d)
  | .none | .bool _ | .int _ | .str _ | .list _ | .tuple _ | .dict _ => by first | rfl | decide +kernel | (unfold W.kitOne; decide +kernel)
section
variable {X : Cx} {k : Nat}
theorem call_isBool : CallR X (.builtin "isinstance") (rIs isBool "bool") := fun pins s σ H xs us Q I r h =>
  let ⟨_, v, d, e, rp, q⟩ := h; call_isi pins s σ H xs us Q I r ⟨v, _, _, _, _, e, .ty _, rp.ty, kit_bool d, q⟩
theorem sl_TL {K : PySem.W.Frag} (h : X.K = K) : SlR X (fun x lo hi H Q => rSlA K x lo hi H Q ∨ rSlL K x lo hi H Q) := h ▸ SlR.or sl_tupA sl_list
end
section
variable {K : PySem.W.Frag} {te0 te : TE} {g : TG} {vs : List Nat} {σ : L2.St} {H : Hp} {Q : VK}
/-- all([.. for x, y in zip(l, m)]), two lists -/
theorem all_zipL {ta : TA} {a : Addr} {xs ys : List V} (b : Nat → Bool) (h0 : ∀ R : List V → Hp → Prop, (∀ a2 H1, Kp [] H H1 → H1 a = some (.lst xs) → H1 a2 = some (.lst ys) → R [.ref a, .ref a2] H1) → ta σ H R) (hn : xs.length ≤ sizeLine)
    (hs : ∀ (m : Nat) x y T H', xs[m]? = some x → ys[m]? = some y → Kp [] H H' → H' T = some (.tup [x, y]) → ∀ Kt : V → Hp → Prop, (∀ H3, Kp [] H' H3 → Kt (.bl (b m)) H3) → g (.ref T) (wipe σ vs) H' fun σ2 H2 => wipe σ2 vs = wipe σ vs ∧ te σ2 H2 Kt)
    (q : ∀ H', Kp [] H H' → Q (.bl (((List.range (min xs.length ys.length)).map b).all id)) H') : tCB (rAll K) (tCons (tLc (iZipA K ta) g tYes te vs) tNil) σ H Q := by
  refine h0 _ fun a2 H1 k1 ha hb => ⟨a, a2, xs, ys, rfl, .inl ⟨.inl (.inl ha), .inl (.inl hb), fun D hD => ?_⟩⟩
  refine lc_bools (walk_zip (K := K) (a := a) (b := a2) (xs := xs) (ys := ys) rfl) (by omega) hD b (fun H' k => ⟨.inl (.inl (k a _ List.not_mem_nil ha)), .inl (.inl (k a2 _ List.not_mem_nil hb))⟩) (fun i x H' H2 hi k y Kt q => ?_) fun H' k e => ?_
  · obtain ⟨T, x, y, rfl, nT, rfl, ex, ey⟩ := y
    exact hs i x y T _ ex ey ((k1.trans k).trans (Kp.new nT)) upd_same Kt fun H3 k3 => q H3 ((Kp.new nT).trans k3)
  · exact ⟨D, _, rfl, .inl (.inl (map_bl _ _ ▸ e)), q H' (k1.trans k)⟩
end
section
variable {J : It} {n : Nat} {G : Hp → Prop} {Y : Nat → Hp → V → Hp → Prop} {g : TG} {te : TE} {vs : List Nat} {σ : L2.St} {H1 : Hp} {D : Addr} {Qd : Hp → Prop} {M : List Addr}
/-- the i-th item reads as e i -/
theorem lc_mapD (w : Walk J n G Y) (hn : n ≤ sizeLine) (hD : H1 D = none) (e : Nat → PyData) (hG : ∀ H, Kp [] H1 H → G H)
    (hs : ∀ i x H H', i < n → Kp [] H1 H → (∃ o, H D = some o) → Y i H x H' → ∀ Kt : V → Hp → Prop, (∀ y H4, Kp [] H H4 → Rep (D :: M) H4 y (e i) → Kt y H4) → g x (wipe σ vs) H' fun σ2 H2 => wipe σ2 vs = wipe σ vs ∧ te σ2 H2 Kt)
    (hd : ∀ acc H, Kp [] H1 H → H D = some (.lst acc) → Reps (D :: M) H acc ((List.range n).map e) → Qd H) :
    ∃ W : Nat → Nat → Hp → Prop, (∃ m, W 0 m (upd H1 D (.lst []))) ∧ ∀ i m H, W i m H →
      (J.stop i H ∧ Qd H) ∨ (J.go i H ∧ ∃ Nx : Hp → Prop, (∀ H', Nx H' → ∃ m', m' < m ∧ W (i + 1) m' H') ∧ ∀ x H', J.yld i H x H' → g x (wipe σ vs) H' fun σ2 H2 => wipe σ2 vs = wipe σ vs ∧ tYes σ2 H2 fun b H3 =>
        if b = true then te σ2 H3 fun y H4 => ∃ acc, H4 D = some (.lst acc) ∧ acc.length < sizeLine ∧ Nx (upd H4 D (.lst (acc ++ [y]))) else Nx H3) := by
  refine lc_by w hn (fun i acc H => Kp [] H1 H ∧ H D = some (.lst acc) ∧ Reps (D :: M) H acc ((List.range i).map e)) ⟨Kp.new hD, upd_same, .nil⟩ (fun i acc H _ p => hG H p.1) (fun i acc H p => ⟨by rw [p.2.2.length]; simp, p.2.1⟩) (fun i acc x H H' hi p y Kt q => ?_) fun acc H p => hd acc H p.1 p.2.1 p.2.2
  obtain ⟨k, ed, r⟩ := p
  refine hs i x H H' hi k ⟨_, ed⟩ y Kt fun y H4 k4 ry => ?_
  have e4 := k4 D _ List.not_mem_nil ed
  have kp : Kp (D :: M) H4 (upd H4 D (.lst (acc ++ [y]))) := Kp.put List.mem_cons_self
  refine q _ H4 e4 ⟨fun c o nc ec => ?_, upd_same, ?_⟩
  · rw [upd_ne (ne_of_none ec hD)]
    exact k4 c o nc (k c o nc ec)
  · rw [List.range_succ, List.map_append]
    exact ((r.keep k4.same).append (.cons ry .nil)).keep kp
end
theorem map_at {α : Type} (f : PyData → α) : ∀ xs : List PyData, ((List.range xs.length).map fun m => f (xs.getD m .none)) = xs.map f
  | [] => rfl
  | x :: r => by
    rw [List.length_cons, List.range_succ_eq_map, List.map_cons, List.map_map, List.map_cons, ← map_at f r]
    rfl
end Gd
end

section
set_option maxRecDepth 100000
set_option maxHeartbeats 2000000
/-! a text times a number, tuple(range(n)), all(..) over a list. -/
namespace Gd
open PySem PySem.Spec PyProof.Rows L2
def rMulS : R2 := fun x y H Q => ∃ z n, x = .str z ∧ y = .int n ∧ MulOk z n ∧ Q (.str (Txt.mul z n)) H
section
variable {X : Cx}
theorem op_mulS : OpR X (binaryOp .Mult) rMulS := by
  intro pins s σ H x y v u Q I rx ry h
  obtain ⟨z, n, rfl, rfl, ok, q⟩ := h
  obtain ⟨t, rfl⟩ := rx
  obtain ⟨t2, rfl⟩ := ry
  exact SB.mul ok fun t' k => ⟨.str _, H, I.tok k, ⟨t', rfl⟩, q⟩
end
section
variable {M : List Addr} {σ : L2.St} {H : Hp}
theorem ev_mulS {z : Str} {n : Int} (ok : MulOk z n) : EvE M (tOp rMulS (tC (.str z)) (tC (.int n))) σ H (.str (Txt.mul z n)) := fun H1 k R q => ⟨z, n, rfl, rfl, ok, q _ H1 .refl (.str _)⟩
theorem rg_reps {Hz : Hp} : ∀ r : List Nat, Reps M Hz (r.map fun i => V.int (0 + (i : Nat))) ((r.map fun i => (0 + (i : Nat) : Int)).map .int)
  | [] => .nil
  | _ :: r => .cons (.int _) (rg_reps r)
theorem ev_tupRg {n : Int} (l : Live M H) (h0 : 0 ≤ n) (h1 : n ≤ 1000) : EvE M (tTupRg (tRg1 (tC (.int n)))) σ H (.tuple (((List.range n.toNat).map fun i => (0 + (i : Nat) : Int)).map .int)) := fun H1 k R q =>
  ⟨n, rfl, RgOk.of_le (by decide) (by omega) (by decide) h0, fun p hp => q _ _ (Kp.new hp) (.tup ((l.grow k).fresh hp) upd_same (by
    unfold rgV
    rw [Int.sub_zero]
    exact rg_reps _))⟩
end
section
variable {K : PySem.W.Frag} {te0 te : TE} {g : TG} {vs : List Nat} {σ : L2.St} {H : Hp} {Q : VK}
/-- all([.. for x in l]), l a list -/
theorem all_list {a : Addr} {xs : List V} (b : Nat → Bool) (h0 : ∀ R : V → Hp → Prop, R (.ref a) H → te0 σ H R) (ha : H a = some (.lst xs)) (hn : xs.length ≤ sizeLine)
    (hs : ∀ (m : Nat) x H', xs[m]? = some x → Kp [] H H' → ∀ Kt : V → Hp → Prop, (∀ H3, Kp [] H' H3 → Kt (.bl (b m)) H3) → g x (wipe σ vs) H' fun σ2 H2 => wipe σ2 vs = wipe σ vs ∧ te σ2 H2 Kt)
    (q : ∀ H', Kp [] H H' → Q (.bl (((List.range xs.length).map b).all id)) H') : tCB (rAll K) (tCons (tLc (iList K te0) g tYes te vs) tNil) σ H Q := by
  refine h0 _ ⟨a, rfl, ⟨xs, .inl (.inl ha)⟩, fun D hD => ?_⟩
  refine lc_bools (walk_list (K := K) (a := a) (xs := xs)) hn hD b (fun H' k => .inl (.inl (k a _ List.not_mem_nil ha))) (fun i x H' H2 hi k y Kt q => ?_) fun H' k e => ?_
  · obtain ⟨rfl, ex⟩ := y
    exact hs i x _ ex k Kt q
  · exact ⟨D, _, rfl, .inl (.inl (map_bl _ _ ▸ e)), q H' k⟩
end
section
variable {K : PySem.W.Frag} {te : TE} {ta : TA} {g : TG} {vs : List Nat} {σ : L2.St} {H : Hp} {Q : VK} {M : List Addr} {P : PyData → Prop} {ds : List PyData}
/-- [.. for x in (a, b, ..)] -/
theorem lc_dispD (ev : EvL M ta σ H ds) (hl : ds.length ≤ 1000)
    (hs : ∀ (m : Nat) x d D H', ds[m]? = some d → Rep (D :: M) H' x d → Kp [] H H' → H D = none → (∃ o, H' D = some o) → ∀ Kt : V → Hp → Prop, (∀ y e H3, Kp [] H' H3 → Rep (D :: M) H3 y e → P e → Kt y H3) → g x (wipe σ vs) H' fun σ2 H2 => wipe σ2 vs = wipe σ vs ∧ te σ2 H2 Kt)
    (q : ∀ D acc es H', Kp [] H H' → H D = none → H' D = some (.lst acc) → acc.length = ds.length → Reps (D :: M) H' acc es → (∀ d ∈ es, P d) → Q (.ref D) H') : tLc (iTup K (tTup ta)) g tYes te vs σ H Q := by
  refine ev.run fun us H2 k2 r2 => ?_
  have lu := r2.length
  refine ⟨by rw [lu, sizeLine_eq]; omega, fun t ht => ⟨t, rfl, ⟨us, .inl (.inl upd_same)⟩, fun D hD => ?_⟩⟩
  have k3 : Kp [] H (upd H2 t (.tup us)) := k2.trans (Kp.new ht)
  have et : (upd H2 t (.tup us)) t = some (.tup us) := upd_same
  have r3 := r2.keep (Kp.new ht (M := M) (o := .tup us))
  generalize upd H2 t (.tup us) = H3 at k3 et r3 hD
  have nD : H D = none := by
    cases c : H D with
    | none => rfl
    | some o => have := k3 D o List.not_mem_nil c; rw [hD] at this; cases this
  refine lc_data (M := M) (P := P) (walk_tup (K := K) (a := t) (xs := us)) (by rw [lu, sizeLine_eq]; omega) hD (fun H' k => .inl (.inl (k t _ List.not_mem_nil et))) (fun i x H' H4 hi k eD y Kt q => ?_) fun acc es H' k e l r h => q D acc es H' (k3.trans k) nD e (by rw [l, lu]) r h
  obtain ⟨rfl, ex⟩ := y
  obtain ⟨d, ed, rd⟩ := r3.at ex
  exact hs i x d D _ ed ((rd.more hD).keep k.same) (k3.trans k) nD eD Kt q
end
end Gd
end

section
set_option maxRecDepth 100000
set_option maxHeartbeats 2000000
namespace K1
open PySem PySem.Spec PyProof.Rows L2 Gd
def topS (i : Nat) : Stmt := PySem.Challenge.pw_gridupgrade_k01_catalogs_of_any_value.main.body.getD i (.Pass ⟨0, 0, 0, 0⟩)
abbrev s_is_ascending : Stmt := topS 2
theorem sc_is_ascending : FnScope ["values", "following", "value"] ["values"] (defScope s_is_ascending) := ⟨rfl, rfl, rfl, by decide +kernel, rfl, by decide +kernel, by decide +kernel⟩
abbrev s_is_name : Stmt := topS 8
theorem sc_is_name : FnScope ["value", "letter"] ["value"] (defScope s_is_name) := ⟨rfl, rfl, rfl, by decide +kernel, rfl, by decide +kernel, by decide +kernel⟩
/-- the built-ins' names are no names of the module; the constants -/
structure Bs (mg : Str → Option Value) (t1 t2 t3 t4 : Tok) : Prop where
  set : mg "set" = none
  bool : mg "bool" = none
  all : mg "all" = none
  zip : mg "zip" = none
  isinstance : mg "isinstance" = none
  str : mg "str" = none
  tuple : mg "tuple" = none
  int : mg "int" = none
  len : mg "len" = none
  range : mg "range" = none
  enumerate : mg "enumerate" = none
  abs : mg "abs" = none
  sorted : mg "sorted" = none
  list : mg "list" = none
  repr : mg "repr" = none
  min : mg "min" = none
  max : mg "max" = none
  cMOST_LETTERS : mg "MOST_LETTERS" = some (.int 8 t1)
  cMOST_VERSIONS : mg "MOST_VERSIONS" = some (.int 8 t2)
  cHIGHEST_VERSION : mg "HIGHEST_VERSION" = some (.int 1000000000 t3)
  cMOST_RELEASES : mg "MOST_RELEASES" = some (.int 12 t4)
/-! ### promises: a boolean of data -/
def sp1 (pre : PyData → Prop) (f : PyData → Bool) : Sp := fun vs H Q _ => ∃ M v d, vs = [v] ∧ Rep M H v d ∧ pre d ∧ ∀ H', Kp [] H H' → Q (.bl (f d)) H'
def sp2 (pre : PyData → PyData → Prop) (f : PyData → PyData → Bool) : Sp := fun vs H Q _ => ∃ M v w d e, vs = [v, w] ∧ Rep M H v d ∧ Rep M H w e ∧ pre d e ∧ ∀ H', Kp [] H H' → Q (.bl (f d e)) H'
theorem len1 {pre : PyData → Prop} {f : PyData → Bool} {x : Str} : ∀ vs H Q E, sp1 pre f vs H Q E → vs.length = [x].length := fun _ _ _ _ ⟨_, _, _, e, _⟩ => by rw [e]; rfl
theorem len2 {pre : PyData → PyData → Prop} {f : PyData → PyData → Bool} {x y : Str} : ∀ vs H Q E, sp2 pre f vs H Q E → vs.length = [x, y].length := fun _ _ _ _ ⟨_, _, _, _, _, e, _⟩ => by rw [e]; rfl
/-! ### the mirrors -/
def asc : List PyData → Bool
  | x :: y :: r => W.dataLt x y && asc (y :: r)
  | _ => true
/-- what may be compared in a row -/
def Row (ds : List PyData) : Prop := ∀ i x y, ds[i]? = some x → ds[i + 1]? = some y → W.alike x y = true ∧ x ≠ .none ∧ x.depth ≤ 100
def items : PyData → List PyData
  | .tuple xs => xs
  | _ => []
def letter (c : Nat) : Bool := decide (97 ≤ c) && decide (c ≤ 122)
def word : PyData → Bool
  | .str x => decide (1 ≤ x.length) && decide (x.length ≤ 8) && x.cps.toList.all letter
  | _ => false
section
variable {P : Program} {w : World} {K : PySem.W.Frag} {mg : Str → Option Value} {base : Heap} {t1 t2 t3 t4 : Tok}
/-- small data -/
def Sm (d : PyData) : Prop := good (2 ^ 300) d ∧ wt d ≤ 100000 ∧ d.depth ≤ 60
theorem small {n : Nat} (h : n ≤ 100000) : n ≤ sizeLine := by rw [sizeLine_eq]; omega
theorem letter_lt (c : Nat) : ((!decide (([c] : List Nat) < [97])) && !decide (([122] : List Nat) < [c])) = letter c := by
  have e1 : (([c] : List Nat) < [97]) = (c < 97) := by simp [List.cons_lt_cons_iff]
  have e2 : (([122] : List Nat) < [c]) = (122 < c) := by simp [List.cons_lt_cons_iff]
  unfold letter
  by_cases h1 : c < 97
  · have h3 : ¬ 97 ≤ c := by omega
    simp [e1, e2, h1, h3]
  · have h3 : 97 ≤ c := by omega
    by_cases h2 : 122 < c
    · have h4 : ¬ c ≤ 122 := by omega
      simp [e1, e2, h1, h2, h4]
    · have h4 : c ≤ 122 := by omega
      simp [e1, e2, h1, h2, h3, h4]
abbrev spWord : Sp := sp1 Sm word
theorem ok_is_name (B : Bs mg t1 t2 t3 t4) (D : Defd K mg "is_name" s_is_name) : Callee P w K mg base CX0 1 "is_name" ["value"] spWord := by
  refine D.ok sc_is_name (fun _ _ _ _ _ _ us hl => match us, hl with | [_], _ => rfl) len1 fun f cdv A outer s H vs Q E hgu hr h => ?_
  obtain ⟨M, v, d, rfl, r, sm, q⟩ := h
  refine ⟨_, (pss_cons (ps_if (PW.pt (pw_or (pt_not (pt_val (pe_callB call_isStr (by rfl) B.isinstance (by decide +kernel) (pa_cons (pv 0) (pa_cons (pe_bltn (v := .ty "str") (by rfl) B.str (by decide +kernel) rfl) pa_nil))))) (pw_or1 (pt_not (pt_chain op_le op_le pe_int (pe_callB call_len_str (by rfl) B.len PySem.boot_len (pa_cons (pv 0) pa_nil)) (pe_glob (v := .int 8) (by rfl) B.cMOST_LETTERS ⟨_, rfl⟩)))))) (pss_one (ps_ret pe_bl)) pss_nil)
        (pss_one (ps_ret (pe_callB (cr_all rfl) (by rfl) B.all (by decide +kernel) (pa_cons (pe_lc (own := [("letter", 1)])  rfl sc_is_name.nd (pi_str (pv 0)) (blkOk_by (N := ["value", "letter"]) (sc := defScope s_is_name) (by decide +kernel)) (fun _ _ _ _ _ => (pg_name (i := 1) sc_is_name.nd rfl (.inl rfl))) (fun _ _ _ _ _ => pts_nil) (fun _ _ _ _ _ => (pe_chain op_le_str op_le_str pe_str (pv 1) pe_str))) pa_nil))))), ?_⟩
  refine ⟨v, rfl, M, v, d, rfl, r, _, rfl, ?_⟩
  cases r with
  | str x =>
    have hx : x.length ≤ 100000 := by
      have := sm.2.1
      simp only [wt] at this
      omega
    refine iteF ?_
    refine ⟨.str x, rfl, x, rfl, small hx, _, _, rfl, rfl, _, rfl, ?_⟩
    refine ite2 (fun e1 => ?_) (fun e1 => ?_)
    · refine ⟨_, _, rfl, rfl, _, rfl, ?_⟩
      refine ite2 (fun e2 => ?_) (fun e2 => ?_)
      · have hq : word (.str x) = false := by
          have : ¬ (x.length ≤ 8) := by simp at e2; omega
          simp [word, this]
        exact hq ▸ q H .refl
      · have h1 : 1 ≤ x.length := by simp at e1; omega
        have h2 : x.length ≤ 8 := by simp at e2; omega
        dsimp only [tNext, tRet]
        refine all_str (z := x) (fun m => letter (x.cps.getD m 0)) (fun R h => ⟨_, rfl, h⟩) (small hx) (fun m c H' hc k Kt hk => ⟨rfl, ?_⟩) fun H' k => ?_
        · refine ⟨_, rfl, _, _, rfl, rfl, _, rfl, ?_⟩
          have hk := hk H' .refl
          have e : x.cps.getD m 0 = c := by rw [Array.getD_eq_getD_getElem?, hc]; rfl
          rw [e, ← letter_lt] at hk
          refine ite2 (fun e3 => ?_) (fun e3 => ?_)
          · refine ⟨_, _, rfl, rfl, ?_⟩
            have e4 : (!decide (([c] : List Nat) < [97])) = true := e3
            rw [e4, Bool.true_and] at hk
            exact hk
          · have e4 : (!decide (([c] : List Nat) < [97])) = false := Bool.eq_false_iff.mpr e3
            rw [e4, Bool.false_and] at hk
            exact hk
        · have hq : word (.str x) = ((List.range x.cps.size).map fun m => letter (x.cps.getD m 0)).all id := by
            rw [show x.cps.size = x.cps.toList.length from (Array.length_toList).symm, all_range x.cps.toList letter _ fun i c e => by rw [Array.getElem?_toList] at e; rw [Array.getD_eq_getD_getElem?, e]; rfl]
            simp [word, h1, h2]
          exact hq ▸ q H' k
    · have hq : word (.str x) = false := by
        have : ¬ (1 ≤ x.length) := by simp at e1; omega
        simp [word, this]
      exact ⟨_, rfl, iteT (hq ▸ q H .refl)⟩
  | _ => exact iteT (iteT (q H .refl))
theorem asc_all : ∀ xs : List PyData, ((List.range (min xs.length (xs.drop 1).length)).map fun m => W.dataLt (xs.getD m .none) (xs.getD (m + 1) .none)).all id = asc xs
  | [] => rfl
  | [_] => rfl
  | x :: y :: r => by
    have ih := asc_all (y :: r)
    have e : min (x :: y :: r).length ((x :: y :: r).drop 1).length = min (y :: r).length ((y :: r).drop 1).length + 1 := by simp
    rw [e, List.range_succ_eq_map, List.map_cons, List.all_cons, List.map_map]
    show (id (W.dataLt x y) && _) = (W.dataLt x y && asc (y :: r))
    rw [← ih]
    rfl
def tupRow (d : PyData) : Prop := ∃ xs, d = .tuple xs ∧ Row xs ∧ xs.length ≤ 1000
abbrev spAsc : Sp := sp1 tupRow fun d => asc (items d)
theorem ok_is_ascending (B : Bs mg t1 t2 t3 t4) (D : Defd K mg "is_ascending" s_is_ascending) : Callee P w K mg base CX0 1 "is_ascending" ["values"] spAsc := by
  refine D.ok sc_is_ascending (fun _ _ _ _ _ _ us hl => match us, hl with | [_], _ => rfl) len1 fun f cdv A outer s H vs Q E hgu hr h => ?_
  obtain ⟨M, v, d, rfl, r, ⟨xs, rfl, row, many⟩, q⟩ := h
  refine ⟨_, (pss_one (ps_ret (pe_callB (cr_all rfl) (by rfl) B.all (by decide +kernel) (pa_cons (pe_lc (own := [("value", 2), ("following", 1)]) (g := (gTup K 2 (gCons (gName 2) (gCons (gName 1) gNil)))) rfl sc_is_ascending.nd (RZ.pi_zipA (by rfl) B.zip (pa_cons (pv 0) (pa_cons (pe_slice sl_tupA (pv 0) (po_some pe_int) po_none) pa_nil))) (blkOk_by (N := ["values", "following", "value"]) (sc := defScope s_is_ascending) (by decide +kernel)) (fun _ _ _ _ _ => (by exact (pg_tup rfl (pgs_cons (pg_name (i := 2) sc_is_ascending.nd rfl (.inl rfl)) (pgs_cons (pg_name (i := 1) sc_is_ascending.nd rfl (.inl rfl)) pgs_nil))))) (fun _ _ _ _ _ => pts_nil) (fun _ _ _ _ _ => (pe_cmpR (op_ltD hr) (pv 2) (pv 1) (nomark _)))) pa_nil)))), ?_⟩
  cases r with
  | tup n e z =>
    rename_i a vs
    have hl := z.length
    dsimp only [tRet]
    refine all_zip (a := a) (xs := vs) (ys := vs.drop 1) (fun m => W.dataLt (xs.getD m .none) (xs.getD (m + 1) .none)) (fun R h => ?_) (small (by omega)) (fun m x y T H' ex ey k eT Kt hk => ?_) fun H' k => ?_
    · refine ⟨_, rfl, _, rfl, _, rfl, _, _, rfl, .inl (.inl e), fun ⟨z1, _⟩ => ?_, fun _ p hp => ?_⟩
      · have : vs = [] := by
          rw [show HT.sIx vs.length 0 (some 1) = min 1 vs.length from HT.sIx_nat _ _ 1] at z1
          cases vs with
          | nil => rfl
          | cons _ _ => simp at z1
        subst this
        exact h _ H .refl e e
      · exact h _ _ (.new hp) (Kp.new hp _ _ List.not_mem_nil e) (by rw [upd_same, cut1])
    · rw [List.getElem?_drop, Nat.add_comm] at ey
      obtain ⟨dx, e1, rx⟩ := z.at ex
      obtain ⟨dy, e2, ry⟩ := z.at ey
      obtain ⟨al, nn, dp⟩ := row m dx dy e1 e2
      have hk := hk H' .refl
      rw [List.getD_eq_getElem?_getD, List.getD_eq_getElem?_getD, e1, e2] at hk
      exact ⟨T, [x, y], rfl, .inl (.inl eT), rfl, x, [y], rfl, y, [], rfl, rfl, rfl, x, rfl, y, rfl, M, dx, dy, rx.keep (k.same), ry.keep (k.same), al, nn, dp, hk⟩
    · have q : Q (.bl (asc xs)) H' := q H' k
      rw [← asc_all] at q
      rw [List.length_drop, hl, ← List.length_drop]
      exact q
theorem wts_mem : ∀ {xs : List PyData} {x : PyData}, x ∈ xs → wt x ≤ wts xs
  | y :: r, x, h => by
    simp only [wts]
    rcases List.mem_cons.mp h with rfl | h
    · omega
    · have := wts_mem h
      omega
theorem wts_len : ∀ xs : List PyData, xs.length ≤ wts xs
  | [] => Nat.le_refl _
  | x :: r => by
    have := wts_len r
    simp only [wts, List.length_cons]
    omega
theorem goods_mem {B : Nat} : ∀ {xs : List PyData} {x : PyData}, goods B xs → x ∈ xs → good B x
  | y :: r, x, g, h => by
    rcases List.mem_cons.mp h with rfl | h
    · exact g.1
    · exact goods_mem g.2 h
theorem depth_mem : ∀ {xs : List PyData} {x : PyData}, x ∈ xs → x.depth ≤ PyData.depthAll xs
  | y :: r, x, h => by
    simp only [PyData.depthAll]
    rcases List.mem_cons.mp h with rfl | h
    · omega
    · have := depth_mem h
      omega
theorem Sm.item {xs : List PyData} {x : PyData} (s : Sm (.tuple xs)) (h : x ∈ xs) : Sm x := by
  obtain ⟨g, w, d⟩ := s
  have g : goods (2 ^ 300) xs := g
  simp only [wt] at w
  simp only [PyData.depth] at d
  exact ⟨goods_mem g h, by have := wts_mem h; omega, by have := depth_mem h; omega⟩
theorem Sm.len {xs : List PyData} (s : Sm (.tuple xs)) : xs.length ≤ 100000 := by
  have w := s.2.1
  simp only [wt] at w
  have := wts_len xs
  omega
theorem word_str {d : PyData} (h : word d = true) : ∃ x, d = .str x := by
  cases d <;> first | exact ⟨_, rfl⟩ | cases h
theorem row_words {xs : List PyData} (h : xs.all word = true) : Row xs := fun i x y e1 e2 => by
  rw [List.all_eq_true] at h
  obtain ⟨x, rfl⟩ := word_str (h x (List.mem_of_getElem? e1))
  obtain ⟨y, rfl⟩ := word_str (h y (List.mem_of_getElem? e2))
  exact ⟨rfl, nofun, Nat.zero_le _⟩
end
end K1
end

section
set_option maxRecDepth 100000
set_option maxHeartbeats 2000000
namespace K1
open PySem PySem.Spec PyProof.Rows L2 Gd
abbrev s_deck : Stmt := topS 15
theorem sc_deck : FnScope ["_law_script", "_law_k", "_law_cell", "_law_own"] ["_law_script", "_law_k"] (defScope s_deck) := ⟨rfl, rfl, rfl, by decide +kernel, rfl, by decide +kernel, by decide +kernel⟩
abbrev s_draw : Stmt := topS 16
theorem sc_draw : FnScope ["_law_deck_here", "_law_many", "_law_prime", "_law_mixed", "_law_digit"] ["_law_deck_here", "_law_many"] (defScope s_draw) := ⟨rfl, rfl, rfl, by decide +kernel, rfl, by decide +kernel, by decide +kernel⟩
section
variable {P : Program} {w : World} {K : PySem.W.Frag} {mg : Str → Option Value} {base : Heap} {t1 t2 t3 t4 : Tok}
/-! ### the deck: three numbers; n: no more than so many were drawn -/
def Deck (H : Hp) (a : Addr) (n : Nat) : Prop := ∃ x y c : Int, H a = some (.lst [.int x, .int y, .int c]) ∧ 0 ≤ x ∧ 0 ≤ y ∧ y < 2305843009213693921 ∧ 0 ≤ c ∧ c ≤ n
theorem Deck.mono {H : Hp} {a : Addr} {n m : Nat} (d : Deck H a n) (h : n ≤ m) : Deck H a m := let ⟨x, y, c, e, a1, a2, a3, a4, a5⟩ := d; ⟨x, y, c, e, a1, a2, a3, a4, by omega⟩
theorem Deck.some {H : Hp} {a : Addr} {n : Nat} (d : Deck H a n) : ∃ o, H a = some o := let ⟨_, _, _, e, _⟩ := d; ⟨_, e⟩
theorem Deck.keep {H H' : Hp} {a : Addr} {n : Nat} {M : List Addr} (d : Deck H a n) (k : Kp M H H') (h : a ∉ M) : Deck H' a n := let ⟨x, y, c, e, r⟩ := d; ⟨x, y, c, k _ _ h e, r⟩
def spDeck (K : PySem.W.Frag) : Sp := fun vs H Q _ => ∃ (a : Addr) (ns : List Int) (k : Nat), vs = [.ref a, .int k] ∧ SqL K H a (ns.map V.int) ∧ k < 100 ∧ ∀ p H', Kp [] H H' → H p = none → Deck H' p 0 → Q (.ref p) H'
/-- behind the cell's choice -/
def tDeck : TS := tSeq
  (tAsg (tOp (rI CMul fun i j => .int (i * j))
      (tOp (rI (fun _ j => j ≠ 0) fun i j => .int (i.fmod j)) (tCB (fun xs H Q => ∃ i, xs = [V.int i] ∧ Q (V.int (if i < 0 then -i else i)) H) (tCons (tVar 2) tNil))
        (tOp (rI CPowW fun i j => .int (i ^ j.toNat)) (tOp (rI CPow fun i j => .int (i ^ j.toNat)) (tC (.int 10)) (tC (.int 60))) (tC (.int 5))))
      (tCB (fun xs H Q => (∃ i, xs = [V.int i] ∧ Q (V.int i) H) ∨ ∃ k, xs = [V.bl k] ∧ Q (V.int (if k = true then 1 else 0)) H)
        (tCons (tOp (rI0 fun i j => .bl (decide (j ≤ i))) (tCB (fun xs H Q => ∃ i, xs = [V.int i] ∧ Q (V.int (if i < 0 then -i else i)) H) (tCons (tVar 2) tNil)) (tOp (rI CPow fun i j => .int (i ^ j.toNat)) (tC (.int 10)) (tC (.int 18)))) tNil))) (gName 3))
  (tRet (tLstS (tCons (tVar 3) (tCons (tOp (rI (fun _ j => j ≠ 0) fun i j => .int (i.fmod j))
    (tOp (rI0 fun i j => .int (i + j)) (tOp (rI0 fun i j => .int (i + j)) (tOp (rI CMul fun i j => .int (i * j)) (tOp (rI (fun _ j => j ≠ 0) fun i j => .int (i.fmod j)) (tVar 2) (tC (.int 2305843009213693951))) (tC (.int 69857)))
      (tOp (rI CMul fun i j => .int (i * j)) (tOp (rI CMul fun i j => .int (i * j)) (tC (.int 7907)) (tVar 1)) (tVar 1))) (tC (.int 23))) (tC (.int 2305843009213693921))) (tCons (tC (.int 0)) tNil)))))
theorem deck_tail {a : Addr} {k : Nat} {H : Hp} {Q : VK} {nx : L2.St → Hp → Prop} {v3 : Option V} (hk : k < 100) (q : ∀ p H', Kp [] H H' → H p = none → Deck H' p 0 → Q (.ref p) H') (cell : Int) :
    tDeck { nx := nx, rt := Q } [some (.ref a), some (.int k), some (.int cell), v3] H := by
  have pw : CPowW (10 ^ Int.toNat 60) 5 := ⟨by decide, by decide +kernel⟩
  refine ⟨.int cell, rfl, cell, rfl, 10, 60, rfl, rfl, ⟨by decide, by decide, by decide⟩, _, 5, rfl, rfl, pw, _, _, rfl, rfl, (by show (10 ^ Int.toNat 60 : Int) ^ Int.toNat 5 ≠ 0; decide +kernel), ?_⟩
  refine ⟨.int cell, rfl, cell, rfl, 10, 18, rfl, rfl, ⟨by decide, by decide, by decide⟩, _, _, rfl, rfl, .inr ⟨_, rfl, ?_⟩⟩
  have one : ∀ b : Bool, (0 : Int) ≤ (if b = true then 1 else 0) ∧ (if b = true then 1 else 0 : Int) ≤ 1 := fun b => by cases b <;> decide
  have o := one (decide (10 ^ Int.toNat 18 ≤ (if cell < 0 then -cell else cell)))
  refine ⟨_, _, rfl, rfl, .inr ⟨by omega, by omega⟩, ?_⟩
  have n0 := Int.fmod_nonneg_of_pos (if cell < 0 then -cell else cell) (b := (10 ^ Int.toNat 60) ^ Int.toNat 5) (by decide +kernel)
  have x0 := Int.mul_nonneg n0 o.1
  have c0 := Int.fmod_nonneg_of_pos cell (b := 2305843009213693951) (by decide)
  have c1 := Int.fmod_lt_of_pos cell (b := 2305843009213693951) (by decide)
  refine ⟨_, rfl, .int cell, rfl, cell, 2305843009213693951, rfl, rfl, (by show (2305843009213693951 : Int) ≠ 0; decide), _, 69857, rfl, rfl, .inr ⟨by decide, by decide⟩, .int k, rfl, 7907, k, rfl, rfl, .inl ⟨by decide, by decide⟩, .int k, rfl, 7907 * k, k, rfl, rfl, .inl ⟨by omega, by omega⟩,
    _, _, rfl, rfl, _, 23, rfl, rfl, _, 2305843009213693921, rfl, rfl, (by show (2305843009213693921 : Int) ≠ 0; decide), (by show 3 ≤ sizeLine; decide), fun p hp _ => ?_⟩
  exact q p _ (Kp.new hp) hp ⟨_, _, _, upd_same, x0, Int.fmod_nonneg_of_pos _ (by decide), Int.fmod_lt_of_pos _ (by decide), Int.le_refl 0, Int.le_refl 0⟩
theorem ok_deck (B : Bs mg t1 t2 t3 t4) (D : Defd K mg "_law_deck" s_deck) : Callee P w K mg base CX0 1 "_law_deck" ["_law_script", "_law_k"] (spDeck K) := by
  refine D.ok sc_deck (fun _ _ _ _ _ _ us hl => match us, hl with | [_, _], _ => rfl) (fun _ _ _ _ ⟨_, _, _, e, _⟩ => by rw [e]; rfl) fun f cdv A outer s H vs Q E hgu hr h => ?_
  obtain ⟨a, ns, k, rfl, hS, hk, q⟩ := h
  refine ⟨_, (pss_cons (ps_set (i := 2) sc_deck.nd rfl (.inl rfl) (pe_op op_add (pe_op op_mul pe_int (pv 1)) pe_int))
        (pss_cons (ps_if (pt_cmpR op_lt (pv 1) (pe_callB call_len (by rfl) B.len PySem.boot_len (pa_cons (pv 0) pa_nil)) (nomark _)) (pss_one (ps_set (i := 2) sc_deck.nd rfl (.inl rfl) (pe_ix (ix_listK (K := K) rfl) (pv 0) (pv 1) (fun _ _ => rfl)))) pss_nil)
        (pss_cons (ps_set (i := 3) sc_deck.nd rfl (.inl rfl) (pe_op op_mul (pe_op op_modN (pe_callB call_abs (by rfl) B.abs (by decide +kernel) (pa_cons (pv 2) pa_nil)) (pe_op op_powW (pe_op op_pow pe_int pe_int) pe_int)) (pe_callTy call_int1 (by rfl) B.int (by decide +kernel) (pa_cons (pe_cmpR op_ge (pe_callB call_abs (by rfl) B.abs (by decide +kernel) (pa_cons (pv 2) pa_nil)) (pe_op op_pow pe_int pe_int) (nomark _)) pa_nil))))
        (pss_one (ps_ret (pe_lstS (pa_cons (pv 3) (pa_cons (pe_op op_modN (pe_op op_add (pe_op op_add (pe_op op_mul (pe_op op_modN (pv 2) pe_int) pe_int) (pe_op op_mul (pe_op op_mul pe_int (pv 1)) (pv 1))) pe_int) pe_int) (pa_cons pe_int pa_nil))))))))), ?_⟩
  refine ⟨_, rfl, 17, k, rfl, rfl, .inl ⟨by decide, by decide⟩, _, 9, rfl, rfl, ?_⟩
  refine ⟨.int k, rfl, .ref a, rfl, .ref a, ns.length, rfl, .inl ⟨_, hS, by simp⟩, k, _, rfl, rfl, _, rfl, ?_⟩
  refine ite2 (fun e => ?_) (fun e => ?_)
  · have hk2 : k < ns.length := by simp at e; omega
    refine ⟨.ref a, rfl, .int k, rfl, a, _, k, .int ns[k], rfl, rfl, hS, atI_nat (by simp [hk2]), ?_⟩
    generalize ns[k] = cell
    exact deck_tail hk q cell
  · exact deck_tail hk q _
theorem prime_at {i : Int} (h0 : 0 ≤ i) (h1 : i < 5) : ∃ pr : Int, atI [V.int 2147483647, V.int 2147483629, V.int 2147483587, V.int 2147483579, V.int 2147483563] i = some (.int pr) ∧ 0 < pr ∧ pr < 2147483648 := by
  obtain ⟨j, rfl⟩ := Int.eq_ofNat_of_zero_le h0
  match j, h1 with
  | 0, _ => exact ⟨_, atI_nat (j := 0) rfl, by decide, by decide⟩
  | 1, _ => exact ⟨_, atI_nat (j := 1) rfl, by decide, by decide⟩
  | 2, _ => exact ⟨_, atI_nat (j := 2) rfl, by decide, by decide⟩
  | 3, _ => exact ⟨_, atI_nat (j := 3) rfl, by decide, by decide⟩
  | 4, _ => exact ⟨_, atI_nat (j := 4) rfl, by decide, by decide⟩
  | j + 5, h => omega
def spDraw : Sp := fun vs H Q _ => ∃ (a : Addr) (n m : Nat), vs = [.ref a, .int m] ∧ Deck H a n ∧ n < 1000000 ∧ 0 < m ∧ m < 1073741824 ∧ ∀ (r : Nat) H', r < m → Kp [a] H H' → Deck H' a (n + 1) → Q (.int r) H'
theorem ok_draw (B : Bs mg t1 t2 t3 t4) (D : Defd K mg "_law_draw" s_draw) : Callee P w K mg base CX0 1 "_law_draw" ["_law_deck_here", "_law_many"] spDraw := by
  refine D.ok sc_draw (fun _ _ _ _ _ _ us hl => match us, hl with | [_, _], _ => rfl) (fun _ _ _ _ ⟨_, _, _, e, _⟩ => by rw [e]; rfl) fun f cdv A outer s H vs Q E hgu hr h => ?_
  obtain ⟨a, n, m, rfl, ⟨x, y, c, hL, hx, hy, hy2, hc, hcn⟩, hn, hm, hm2, q⟩ := h
  refine ⟨_, (pss_cons (ps_if (pt_cmpR op_gt (pe_ix (ix_listK (K := K) rfl) (pv 0) pe_int (fun _ _ => rfl)) pe_int (nomark _)) (pss_cons (ps_set (i := 4) sc_draw.nd rfl (.inl rfl) (pe_op op_modN (pe_ix (ix_listK (K := K) rfl) (pv 0) pe_int (fun _ _ => rfl)) (pv 1)))
        (pss_cons (ps_asg (pe_op op_fdivN (pe_ix (ix_listK (K := K) rfl) (pv 0) pe_int (fun _ _ => rfl)) (pv 1)) (pg_sub (pv 0) pe_int set_list))
        (pss_one (ps_ret (pv 4))))) pss_nil)
        (pss_cons (ps_asg (pe_op op_add (pe_ix (ix_listK (K := K) rfl) (pv 0) pe_int (fun _ _ => rfl)) pe_int) (pg_sub (pv 0) pe_int set_list))
        (pss_cons (ps_set (i := 2) sc_draw.nd rfl (.inl rfl) (pe_ix (ix_listK (K := K) rfl) (pe_lstS (pa_cons pe_int (pa_cons pe_int (pa_cons pe_int (pa_cons pe_int (pa_cons pe_int pa_nil)))))) (pe_op op_modN (pe_ix (ix_listK (K := K) rfl) (pv 0) pe_int (fun _ _ => rfl)) pe_int) (fun _ _ => rfl)))
        (pss_cons (ps_set (i := 3) sc_draw.nd rfl (.inl rfl) (pe_op op_modN (pe_op op_pow (pe_op op_add (pe_op op_add (pe_ix (ix_listK (K := K) rfl) (pv 0) pe_int (fun _ _ => rfl)) (pe_op op_mul (pe_op op_mul pe_int (pe_ix (ix_listK (K := K) rfl) (pv 0) pe_int (fun _ _ => rfl))) (pe_ix (ix_listK (K := K) rfl) (pv 0) pe_int (fun _ _ => rfl)))) pe_int) pe_int) (pv 2)))
        (pss_one (ps_ret (pe_op op_modN (pe_op op_fdivN (pe_op op_modN (pe_op op_mul (pv 3) (pe_op op_add (pe_op op_modN (pv 3) pe_int) (pe_op op_mul pe_int (pe_ix (ix_listK (K := K) rfl) (pv 0) pe_int (fun _ _ => rfl))))) pe_int) pe_int) (pv 1)))))))), ?_⟩
  have fin : ∀ (i : Int) H', Kp [a] H H' → Deck H' a (n + 1) → Q (.int (i.fmod m)) H' := fun i H' k d => by
    have h1 := Int.fmod_nonneg_of_pos i (b := (m : Int)) (by omega)
    have h2 := Int.fmod_lt_of_pos i (b := (m : Int)) (by omega)
    obtain ⟨r, er⟩ := Int.eq_ofNat_of_zero_le h1
    rw [er]
    exact q r H' (by omega) k d
  refine ⟨.ref a, rfl, a, _, 0, .int x, rfl, rfl, .inl (.inl hL), rfl, _, _, rfl, rfl, _, rfl, ?_⟩
  refine ite2 (fun e => ?_) (fun e => ?_)
  · have hx0 : 0 < x := of_decide_eq_true e
    refine ⟨.ref a, rfl, a, _, 0, .int x, rfl, rfl, .inl (.inl hL), rfl, .int m, rfl, x, m, rfl, rfl, by omega, ?_⟩
    refine ⟨.ref a, rfl, a, _, 0, .int x, rfl, rfl, .inl (.inl hL), rfl, .int m, rfl, x, m, rfl, rfl, ⟨by omega, by omega⟩, ?_⟩
    refine ⟨.ref a, rfl, a, _, 0, 0, rfl, rfl, hL, rfl, _, rfl, ?_⟩
    exact fin x _ (Kp.put (List.mem_singleton.mpr rfl)) ⟨x.fdiv m, y, c, upd_same, Int.fdiv_nonneg hx (by omega), hy, hy2, hc, by omega⟩
  · refine ⟨.ref a, rfl, a, _, 2, .int c, rfl, rfl, .inl (.inl hL), rfl, c, 1, rfl, rfl, .ref a, rfl, a, _, 2, 2, rfl, rfl, hL, rfl, ?_⟩
    refine ⟨by show 5 ≤ sizeLine; decide, fun p hp _ => ?_⟩
    generalize eH : upd H a _ = H1 at hp ⊢
    have k1 : Kp [a] H H1 := eH ▸ Kp.put (List.mem_singleton.mpr rfl)
    have hL1 : H1 a = some (.lst [.int x, .int y, .int (c + 1)]) := eH ▸ upd_same
    generalize eH2 : upd H1 p _ = H2
    have hP : H2 p = some (.lst [.int 2147483647, .int 2147483629, .int 2147483587, .int 2147483579, .int 2147483563]) := eH2 ▸ upd_same
    have k2 : Kp [a] H1 H2 := eH2 ▸ Kp.new hp
    have hL2 : H2 a = some (.lst [.int x, .int y, .int (c + 1)]) := by rw [← eH2, upd_ne (ne_of_none hL1 hp)]; exact hL1
    have deck : Deck H2 a (n + 1) := ⟨x, y, c + 1, hL2, hx, hy, hy2, by omega, by omega⟩
    refine ⟨.ref a, rfl, a, _, 2, .int (c + 1), rfl, rfl, .inl (.inl hL2), rfl, c + 1, 5, rfl, rfl, (by show (5 : Int) ≠ 0; decide), ?_⟩
    obtain ⟨pr, ep, hp0, hp1⟩ := prime_at (i := (c + 1).fmod 5) (Int.fmod_nonneg_of_pos _ (by decide)) (Int.fmod_lt_of_pos _ (by decide))
    refine ⟨p, _, _, _, rfl, rfl, .inl (.inl hP), ep, ?_⟩
    have sq : 0 ≤ 98317 * (c + 1) * (c + 1) ∧ 98317 * (c + 1) * (c + 1) ≤ 98317000000000000 := by
      have h0 : 0 ≤ 98317 * (c + 1) := by omega
      have h1 : 98317 * (c + 1) ≤ 98317000000 := by omega
      have h2 : 0 ≤ c + 1 := by omega
      have h3 : c + 1 ≤ 1000000 := by omega
      exact ⟨Int.mul_nonneg h0 h2, Int.le_trans (Int.mul_le_mul h1 h3 h2 (by decide)) (by decide)⟩
    refine ⟨.ref a, rfl, a, _, 1, .int y, rfl, rfl, .inl (.inl hL2), rfl, .ref a, rfl, a, _, 2, .int (c + 1), rfl, rfl, .inl (.inl hL2), rfl, 98317, c + 1, rfl, rfl, .inl ⟨by decide, by decide⟩, .ref a, rfl, a, _, 2, .int (c + 1), rfl, rfl, .inl (.inl hL2), rfl,
      98317 * (c + 1), c + 1, rfl, rfl, .inl ⟨by omega, by omega⟩, y, _, rfl, rfl, _, 43, rfl, rfl, _, 3, rfl, rfl, ⟨by decide, by decide, by omega⟩, .int pr, rfl, _, pr, rfl, rfl, by omega, ?_⟩
    dsimp only
    generalize em : ((y + 98317 * (c + 1) * (c + 1) + 43) ^ Int.toNat 3).fmod pr = mx
    have m0 : 0 ≤ mx := em ▸ Int.fmod_nonneg_of_pos _ hp0
    have m1 : mx < pr := em ▸ Int.fmod_lt_of_pos _ hp0
    refine ⟨.int mx, rfl, .int mx, rfl, mx, 10007, rfl, rfl, (by show (10007 : Int) ≠ 0; decide), .ref a, rfl, a, _, 2, .int (c + 1), rfl, rfl, .inl (.inl hL2), rfl, 83, c + 1, rfl, rfl, .inl ⟨by decide, by decide⟩, _, _, rfl, rfl, mx, _, rfl, rfl, .inl ⟨by omega, by omega⟩, _, 2305843009213693907, rfl, rfl, (by show (2305843009213693907 : Int) ≠ 0; decide), _, 89, rfl, rfl, ⟨by decide, by decide⟩, .int m, rfl, _, m, rfl, rfl, by omega, ?_⟩
    exact fin _ H2 (k1.trans k2) deck
end
end K1
end

section
set_option maxRecDepth 100000
set_option maxHeartbeats 2000000
namespace K1
open PySem PySem.Spec PyProof.Rows L2 Gd
abbrev s_any : Stmt := topS 17
theorem sc_any : FnScope ["_law_deck_here", "_law_items"] ["_law_deck_here", "_law_items"] (defScope s_any) := ⟨rfl, rfl, rfl, by decide +kernel, rfl, by decide +kernel, by decide +kernel⟩
abbrev s_names : Stmt := topS 19
theorem sc_names : FnScope ["_law_deck_here", "_law_many", "_law_stem", "_law_first", "_law_letters", "_law_at"] ["_law_deck_here", "_law_many"] (defScope s_names) := ⟨rfl, rfl, rfl, by decide +kernel, rfl, by decide +kernel, by decide +kernel⟩
theorem mem1 {a : Addr} : a ∈ [a] := List.mem_singleton.mpr rfl
theorem kp1 {a b : Addr} {H H' : Hp} {o : HO} (k : Kp [a] H H') (n : b ≠ a) (e : H b = some o) : H' b = some o := k b o (fun z => n (List.mem_singleton.mp z)) e
section
variable {J : It} {n : Nat} {G : Hp → Prop} {Y : Nat → Hp → V → Hp → Prop} {g : TG} {te : TE} {vs : List Nat} {σ : L2.St} {H1 : Hp} {D : Addr} {Qd : Hp → Prop}
/-- items of a kind, drawn -/
theorem lc_deck {a : Addr} {c m : Nat} (w : Walk J n G Y) (hn : n ≤ sizeLine) (hD : H1 D = none) (dk : Deck H1 a m) (R : V → Prop) (hG : ∀ H, Kp [a] H1 H → G H)
    (hs : ∀ i x H H', i < n → Kp [a] H1 H → Deck H a (m + c * i) → Y i H x H' → ∀ Kt : V → Hp → Prop, (∀ y H4, Kp [a] H H4 → Deck H4 a (m + c * i + c) → R y → Kt y H4) → g x (wipe σ vs) H' fun σ2 H2 => wipe σ2 vs = wipe σ vs ∧ te σ2 H2 Kt)
    (hd : ∀ acc H, Kp [a] H1 H → Deck H a (m + c * n) → H D = some (.lst acc) → acc.length = n → (∀ y ∈ acc, R y) → Qd H) :
    ∃ W : Nat → Nat → Hp → Prop, (∃ m, W 0 m (upd H1 D (.lst []))) ∧ ∀ i m H, W i m H →
      (J.stop i H ∧ Qd H) ∨ (J.go i H ∧ ∃ Nx : Hp → Prop, (∀ H', Nx H' → ∃ m', m' < m ∧ W (i + 1) m' H') ∧ ∀ x H', J.yld i H x H' → g x (wipe σ vs) H' fun σ2 H2 => wipe σ2 vs = wipe σ vs ∧ tYes σ2 H2 fun b H3 =>
        if b = true then te σ2 H3 fun y H4 => ∃ acc, H4 D = some (.lst acc) ∧ acc.length < sizeLine ∧ Nx (upd H4 D (.lst (acc ++ [y]))) else Nx H3) := by
  obtain ⟨o, eo⟩ := dk.some
  have ne : D ≠ a := (ne_of_none eo hD).symm
  have na : a ∉ [D] := fun z => ne (List.mem_singleton.mp z).symm
  refine lc_by w hn (fun i acc H => Kp [a] H1 H ∧ Deck H a (m + c * i) ∧ H D = some (.lst acc) ∧ acc.length = i ∧ ∀ y ∈ acc, R y) ⟨Kp.new hD, dk.keep (Kp.new (M := [D]) hD) na, upd_same, rfl, nofun⟩ (fun i acc H _ p => hG H p.1) (fun i acc H p => ⟨p.2.2.2.1, p.2.2.1⟩) (fun i acc x H H' hi p y Kt q => ?_)
    fun acc H p => hd acc H p.1 p.2.1 p.2.2.1 p.2.2.2.1 p.2.2.2.2
  obtain ⟨k, dk, ed, el, hr⟩ := p
  refine hs i x H H' hi k dk y Kt fun y H4 k4 dk4 ry => ?_
  refine q _ H4 (kp1 k4 ne ed) ⟨fun c o nc ec => ?_, (dk4.keep (Kp.put mem1) na).mono (by rw [Nat.mul_succ]; omega), upd_same, by simp [el], fun z hz => ?_⟩
  · rw [upd_ne (ne_of_none ec hD)]
    exact k4 c o nc (k c o nc ec)
  · rcases List.mem_append.mp hz with hz | hz
    · exact hr z hz
    · rw [List.mem_singleton.mp hz]; exact ry
end
section
variable {P : Program} {w : World} {K : PySem.W.Frag} {mg : Str → Option Value} {base : Heap} {t1 t2 t3 t4 : Tok}
def spAny : Sp := fun vs H Q _ => ∃ (a b : Addr) (n : Nat) (us : List V), vs = [.ref a, .ref b] ∧ Deck H a n ∧ n < 1000000 ∧ b ≠ a ∧ H b = some (.lst us) ∧ 0 < us.length ∧ us.length < 1000000 ∧ ∀ (i : Nat) v H', us[i]? = some v → Kp [a] H H' → Deck H' a (n + 1) → Q v H'
theorem ok_any (B : Bs mg t1 t2 t3 t4) (D : Defd K mg "_law_any" s_any) (C_law_draw : Callee P w K mg base CX0 1 "_law_draw" ["_law_deck_here", "_law_many"] spDraw) : Callee P w K mg base CX0 2 "_law_any" ["_law_deck_here", "_law_items"] spAny := by
  refine D.ok sc_any (fun _ _ _ _ _ _ us hl => match us, hl with | [_, _], _ => rfl) (fun _ _ _ _ ⟨_, _, _, _, e, _⟩ => by rw [e]; rfl) fun f cdv A outer s H vs Q E hgu hr h => ?_
  obtain ⟨a, b, n, us, rfl, dk, hn, ne, hb, h0, h1, q⟩ := h
  refine ⟨_, (pss_one (ps_ret (pe_ix (ix_listK (K := K) rfl) (pv 1) (pown C_law_draw hgu (hr.mono (by omega)) (by rfl) pass0 (pa_cons (pv 0) (pa_cons (pe_callB call_len (by rfl) B.len PySem.boot_len (pa_cons (pv 1) pa_nil)) pa_nil))) (fun _ _ => rfl)))), ?_⟩
  refine ⟨.ref b, rfl, .ref a, rfl, .ref b, rfl, .ref b, us.length, rfl, .inl ⟨us, .inl (.inl hb), rfl⟩, a, n, us.length, rfl, dk, hn, h0, Nat.lt_trans h1 (by decide), fun r H' hr' k dk' => ?_⟩
  exact ⟨b, us, r, us[r], rfl, rfl, .inl (.inl (kp1 k ne hb)), atI_nat (by simp [hr']), q r _ H' (by simp [hr']) k dk'⟩
/-- a short text -/
def Wd (s : Str) : Prop := s.length ≤ 8 ∧ ∀ c ∈ s.cps.toList, c < 128
theorem stem_of {i : Nat} {v : V} (h : [V.str "", V.str "", V.str "x", V.str "step", V.str "release"][i]? = some v) : ∃ st, v = .str st ∧ st.length ≤ 7 ∧ ∀ c ∈ st.cps.toList, c < 128 := by
  match i, h with
  | 0, h => exact ⟨_, (Option.some.inj h).symm, by decide +kernel, by decide +kernel⟩
  | 1, h => exact ⟨_, (Option.some.inj h).symm, by decide +kernel, by decide +kernel⟩
  | 2, h => exact ⟨_, (Option.some.inj h).symm, by decide +kernel, by decide +kernel⟩
  | 3, h => exact ⟨_, (Option.some.inj h).symm, by decide +kernel, by decide +kernel⟩
  | 4, h => exact ⟨_, (Option.some.inj h).symm, by decide +kernel, by decide +kernel⟩
  | j + 5, h => simp at h
theorem letter_at {i : Int} (h0 : 0 ≤ i) (h1 : i < 26) : ∃ c, atI ("abcdefghijklmnopqrstuvwxyz" : Str).cps.toList i = some c ∧ c < 128 := by
  obtain ⟨j, rfl⟩ := Int.eq_ofNat_of_zero_le h0
  have hj : j < 26 := by omega
  have len : ("abcdefghijklmnopqrstuvwxyz" : Str).cps.toList.length = 26 := by decide +kernel
  have all : ∀ c ∈ ("abcdefghijklmnopqrstuvwxyz" : Str).cps.toList, c < 128 := by decide +kernel
  have e : ("abcdefghijklmnopqrstuvwxyz" : Str).cps.toList[j]? = some ("abcdefghijklmnopqrstuvwxyz" : Str).cps.toList[j] := List.getElem?_eq_getElem (by omega)
  exact ⟨_, atI_nat e, all _ (List.getElem_mem _)⟩
theorem strs_of {Pr : Str → Prop} : ∀ acc : List V, (∀ y ∈ acc, ∃ s, y = V.str s ∧ Pr s) → ∃ ss : List Str, acc = ss.map V.str ∧ ∀ s ∈ ss, Pr s
  | [], _ => ⟨[], rfl, nofun⟩
  | y :: r, h => by
    obtain ⟨s, rfl, hs⟩ := h y List.mem_cons_self
    obtain ⟨ss, rfl, h2⟩ := strs_of r fun z hz => h z (List.mem_cons_of_mem _ hz)
    exact ⟨s :: ss, rfl, fun z hz => (List.mem_cons.mp hz).elim (fun e => e ▸ hs) (h2 z)⟩
theorem str_append_toList (a b : Str) : (a ++ b).cps.toList = a.cps.toList ++ b.cps.toList := by
  show (a.cps ++ b.cps).toList = _
  rw [Array.toList_append]
def spNames : Sp := fun vs H Q _ => ∃ (a : Addr) (n m : Nat), vs = [.ref a, .int m] ∧ Deck H a n ∧ n < 900000 ∧ m ≤ 12 ∧ ∀ p (ss : List Str) H', Kp [a] H H' → H p = none → H' p = some (.lst (ss.map V.str)) → ss.length = m → (∀ s ∈ ss, Wd s) → Deck H' a (n + 2) → Q (.ref p) H'
theorem ok_names (B : Bs mg t1 t2 t3 t4) (D : Defd K mg "_law_names" s_names) (C_law_draw : Callee P w K mg base CX0 1 "_law_draw" ["_law_deck_here", "_law_many"] spDraw) (C_law_any : Callee P w K mg base CX0 2 "_law_any" ["_law_deck_here", "_law_items"] spAny) :
    Callee P w K mg base CX0 3 "_law_names" ["_law_deck_here", "_law_many"] spNames := by
  refine D.ok sc_names (fun _ _ _ _ _ _ us hl => match us, hl with | [_, _], _ => rfl) (fun _ _ _ _ ⟨_, _, _, e, _⟩ => by rw [e]; rfl) fun f cdv A outer s H vs Q E hgu hr h => ?_
  obtain ⟨a, n, m, rfl, dk, hn, hm, q⟩ := h
  refine ⟨_, (pss_cons (ps_asg (pe_tup (pa_cons (pown C_law_any hgu (hr.mono (by omega)) (by rfl) pass0 (pa_cons (pv 0) (pa_cons (pe_lstS (pa_cons pe_str (pa_cons pe_str (pa_cons pe_str (pa_cons pe_str (pa_cons pe_str pa_nil)))))) pa_nil))) (pa_cons (pown C_law_draw hgu (hr.mono (by omega)) (by rfl) pass0 (pa_cons (pv 0) (pa_cons pe_int pa_nil))) pa_nil))) (pg_tup rfl (pgs_cons (pg_name (i := 2) sc_names.nd rfl (.inr rfl)) (pgs_cons (pg_name (i := 3) sc_names.nd rfl (.inr rfl)) pgs_nil))))
        (pss_cons (ps_set (i := 4) sc_names.nd rfl (.inr rfl) pe_str)
        (pss_one (ps_ret (pe_callB cr_sortedS (by rfl) B.sorted (by decide +kernel) (pa_cons (pe_lc (own := [("_law_at", 5)])  rfl sc_names.nd (pi_range1 (by rfl) B.range (pa_cons (pv 1) pa_nil)) (blkOk_by (N := ["_law_deck_here", "_law_many", "_law_stem", "_law_first", "_law_letters", "_law_at"]) (sc := defScope s_names) (by decide +kernel)) (fun _ _ _ _ _ => (pg_name (i := 5) sc_names.nd rfl (.inl rfl))) (fun _ _ _ _ _ => pts_nil) (fun _ _ _ _ _ => (pe_op op_add_str (pv 2) (pe_ix ix_str (pv 4) (pe_op op_modN (pe_op op_add (pv 3) (pe_op op_mul pe_int (pv 5))) pe_int) (fun _ _ => rfl))))) pa_nil)))))), ?_⟩
  obtain ⟨oa, ea⟩ := dk.some
  refine ⟨.ref a, rfl, by show 5 ≤ sizeLine; decide, fun p hp _ => ?_⟩
  have nap : p ≠ a := (ne_of_none ea hp).symm
  refine ⟨a, p, n, _, rfl, dk.keep (M := [p]) (Kp.new hp) (fun z => nap (List.mem_singleton.mp z).symm), by omega, nap, upd_same, by decide, by decide, fun i v H1 ei k1 dk1 => ?_⟩
  obtain ⟨st, rfl, hst, gst⟩ := stem_of ei
  refine ⟨.ref a, rfl, a, n + 1, 26, rfl, dk1, by omega, by decide, by decide, fun r H2 hr2 k2 dk2 => ?_⟩
  refine ⟨by show 2 ≤ sizeLine; decide, fun t ht => ?_⟩
  refine ⟨t, _, rfl, .inl (.inl upd_same), rfl, .str st, _, rfl, .int r, _, rfl, rfl, ?_⟩
  refine ⟨.int m, rfl, m, rfl, by omega, by omega, fun D2 hD => ?_⟩
  have kk : Kp [a] H (upd H2 t (.tup [.str st, .int r])) := ((Kp.new hp).trans (k1.trans k2)).trans (Kp.new ht)
  obtain ⟨o2, e2⟩ := dk2.some
  have nt : t ≠ a := (ne_of_none e2 ht).symm
  have dk3 : Deck (upd H2 t (.tup [.str st, .int r])) a (n + 2) := dk2.keep (M := [t]) (Kp.new ht) (fun z => nt (List.mem_singleton.mp z).symm)
  generalize upd H2 t (.tup [.str st, .int r]) = H3 at hD kk dk3 ⊢
  refine lc_pure (walk_range (lo := 0) (n := (m : Int).toNat)) (small (by omega)) hD (fun y => ∃ s, y = V.str s ∧ Wd s) (fun _ _ => trivial) (fun i x H4 H5 hi k4 y Kt hk => ?_) fun acc H4 k4 e4 hl hR => ?_
  · obtain ⟨rfl, rfl⟩ := y
    obtain ⟨c, ec, gc⟩ := letter_at (i := ((r : Int) + 5 * (0 + (i : Int))).fmod 26) (Int.fmod_nonneg_of_pos _ (by decide)) (Int.fmod_lt_of_pos _ (by decide))
    refine ⟨rfl, .str st, rfl, .str "abcdefghijklmnopqrstuvwxyz", rfl, .int r, rfl, .int (0 + i), rfl, 5, 0 + i, rfl, rfl, .inl ⟨by decide, by decide⟩, r, _, rfl, rfl, _, 26, rfl, rfl, (by show (26 : Int) ≠ 0; decide), _, _, c, rfl, rfl, (by decide +kernel), ec, st, ⟨#[c]⟩, rfl, rfl, ?_, hk _ _ .refl ⟨_, rfl, ?_, ?_⟩⟩
    · exact small (show st.length + 1 ≤ 100000 by omega)
    · rw [strLen_append]
      show st.length + 1 ≤ 8
      omega
    · intro c' hc'
      rw [str_append_toList, List.mem_append] at hc'
      rcases hc' with h | h
      · exact gst c' h
      · have : c' = c := by simpa using h
        rw [this]; exact gc
  · obtain ⟨ss, rfl, hss⟩ := strs_of acc hR
    rw [List.length_map] at hl
    refine ⟨D2, ss, rfl, .inl (.inl e4), by omega, fun ys p2 perm _ hp2 => q p2 ys _ ((kk.trans k4.same).trans (Kp.new hp2)) ?_ upd_same (by rw [perm.length_eq, hl]; simp) (fun z hz => hss z (perm.mem_iff.mp hz)) ?_⟩
    · cases c : H p2 with
      | none => rfl
      | some o =>
        by_cases e : p2 = a
        · subst e
          have dk4 := dk3.keep k4 List.not_mem_nil
          obtain ⟨o, eo⟩ := dk4.some
          rw [hp2] at eo; cases eo
        · have := kp1 (kk.trans k4.same) e c
          rw [hp2] at this; cases this
    · have dk4 := dk3.keep k4 List.not_mem_nil
      obtain ⟨o, eo⟩ := dk4.some
      exact dk4.keep (M := [p2]) (Kp.new hp2) (fun z => ne_of_none eo hp2 (List.mem_singleton.mp z))
end
end K1
end

section
set_option maxRecDepth 100000
set_option maxHeartbeats 4000000
namespace K1
open PySem PySem.Spec PyProof.Rows L2 Gd
abbrev s_odd : Stmt := topS 22
theorem sc_odd : FnScope ["_law_deck_here", "_law_thing", "_law_some"] ["_law_deck_here", "_law_thing"] (defScope s_odd) := ⟨rfl, rfl, rfl, by decide +kernel, rfl, by decide +kernel, by decide +kernel⟩
/-- how large an odd thing is -/
structure Od (B W D : Nat) (d : PyData) : Prop where
  g : good B d
  w : wt d ≤ W
  d : d.depth ≤ D
def Ods (B W D : Nat) (ds : List PyData) : Prop := ∀ d ∈ ds, Od B W D d
section
variable {P : Program} {w : World} {K : PySem.W.Frag} {mg : Str → Option Value} {base : Heap} {t1 t2 t3 t4 : Tok}
theorem none_back {H H' : Hp} {p : Addr} (k : Kp [] H H') (h : H' p = none) : H p = none := by
  cases c : H p with
  | none => rfl
  | some o => have := k p o List.not_mem_nil c; rw [h] at this; cases this
theorem ev_pow {M : List Addr} {σ : L2.St} {H : Hp} : EvE M (tOp (rI CPow fun i j => V.int (i ^ j.toNat)) (tC (.int 10)) (tC (.int 20))) σ H (.int (10 ^ 20)) := fun H1 _ R q => ⟨10, 20, rfl, rfl, ⟨by decide, by decide, by decide⟩, q _ H1 .refl (.int _)⟩
/-- some + [..] * 2 -/
theorem app_two {M : List Addr} {ta : TA} {ds : List PyData} {σ : L2.St} {H : Hp} {i : Nat} {p : Addr} {vs : List V} {R : V → Hp → Prop} (e2 : σ[i]? = some (some (.ref p))) (ep : H p = some (.lst vs)) (hv : vs.length ≤ 1000) (ev : EvL M ta σ H ds) (hd : ds.length ≤ 1000)
    (q : ∀ p4 us H4, Kp [] H H4 → H p4 = none → H4 p4 = some (.lst (vs ++ us)) → Reps M H4 us (ds ++ ds) → R (.ref p4) H4) : tOp rCat (tVar i) (tOp rRep (tLstS ta) (tC (.int 2))) σ H R := by
  refine ⟨.ref p, e2, ev.run fun us H2 k2 rs => ?_⟩
  have lu := rs.length
  refine ⟨by rw [sizeLine_eq]; omega, fun p2 h2 _ => ?_⟩
  refine ⟨p2, 2, us, rfl, rfl, upd_same, by decide, by decide, ?_, fun p3 h3 => ?_⟩
  · show us.length * 2 ≤ sizeLine
    rw [sizeLine_eq]; omega
  · have e3 : (List.replicate (2 : Int).toNat us).flatten = us ++ us := by
      show us ++ (us ++ []) = us ++ us
      rw [List.append_nil]
    rw [e3]
    have k3 : Kp [] H2 (upd (upd H2 p2 (.lst us)) p3 (.lst (us ++ us))) := (Kp.new h2).trans (Kp.new h3)
    refine ⟨p, p3, vs, us ++ us, rfl, rfl, k3 _ _ List.not_mem_nil (k2 _ _ List.not_mem_nil ep), upd_same, by rw [List.length_append, sizeLine_eq]; omega, fun p4 h4 => ?_⟩
    exact q p4 _ _ ((k2.trans k3).trans (Kp.new h4)) (none_back (k2.trans k3) h4) upd_same (((rs.append rs).keep k3.same).keep (Kp.new h4))
def base19 : List PyData := [.none, .bool true, .bool false, .int 0, .int 1, .int (-1), .int 12, .int (10 ^ 20), .str "", .str "a", .str "A", .str "ab", .tuple [], .list [], .dict [], .tuple [.int 0], .tuple [.str "a"], .tuple [.tuple [.str "a", .int 1]], .list [.int 0]]
theorem base_od {B W D : Nat} (hB : 10 ^ 20 ≤ B) : Ods (B + 1) (2 * W + 500) (D + 3) base19 := by
  have c0 : ∀ c ∈ ("" : Str).cps.toList, c < 128 := by decide +kernel
  have c1 : ∀ c ∈ ("a" : Str).cps.toList, c < 128 := by decide +kernel
  have c2 : ∀ c ∈ ("A" : Str).cps.toList, c < 128 := by decide +kernel
  have c3 : ∀ c ∈ ("ab" : Str).cps.toList, c < 128 := by decide +kernel
  have l0 : ("" : Str).length = 0 := rfl
  have l1 : ("a" : Str).length = 1 := rfl
  have l2 : ("A" : Str).length = 1 := rfl
  have l3 : ("ab" : Str).length = 2 := rfl
  intro d hd
  simp only [base19, List.mem_cons, List.not_mem_nil, or_false] at hd
  rcases hd with rfl | rfl | rfl | rfl | rfl | rfl | rfl | rfl | rfl | rfl | rfl | rfl | rfl | rfl | rfl | rfl | rfl | rfl | rfl
  all_goals
    refine ⟨?_, ?_, ?_⟩
    · first
        | trivial
        | exact c0 | exact c1 | exact c2 | exact c3
        | rfl
        | (show Int.natAbs _ ≤ _; omega)
        | exact ⟨show Int.natAbs _ ≤ _ by omega, trivial⟩
        | exact ⟨c1, trivial⟩
        | exact ⟨⟨c1, show Int.natAbs _ ≤ _ by omega, trivial⟩, trivial⟩
    · simp only [wt, wts]; omega
    · simp only [PyData.depth, PyData.depthAll, PyData.depthKv]; omega
theorem int_plain (i : Int) : ∀ c ∈ (Str.ofString (toString i)).cps.toList, c < 128 := fun c hc => by
  rw [Str.ofString_eq_toList] at hc
  have hc : c ∈ (toString i).toList.map Char.toNat := by simpa using hc
  obtain ⟨ch, h1, rfl⟩ := List.mem_map.mp hc
  exact int_ascii i ch h1
theorem cutS_plain {x : Str} {lo hi : Option Int} : (cutS x lo hi).length ≤ x.length ∧ ∀ c ∈ (cutS x lo hi).cps.toList, c ∈ x.cps.toList := by
  have e : (cutS x lo hi).cps.toList = (x.cps.toList.drop (HT.sIx x.length 0 lo)).take (HT.sIx x.length x.length hi - HT.sIx x.length 0 lo) := by simp [cutS]
  have s := cut_sub x.cps.toList (HT.sIx x.length 0 lo) (HT.sIx x.length x.length hi - HT.sIx x.length 0 lo)
  rw [← e] at s
  have l := s.length_le
  rw [Array.length_toList, Array.length_toList] at l
  exact ⟨l, fun c hc => s.subset hc⟩
def spOdd : Sp := fun vs H Q _ => ∃ (M : List Addr) (a : Addr) (n : Nat) (v : V) (d : PyData) (B W D : Nat), vs = [.ref a, v] ∧ a ∈ M ∧ Live M H ∧ Deck H a n ∧ n < 900000 ∧ Rep M H v d ∧ Od B W D d ∧ 10 ^ 20 ≤ B ∧ B < 2 ^ 399 ∧ W ≤ 20000 ∧
  ∀ v' d' H', Kp [a] H H' → Rep M H' v' d' → Od (B + 1) (2 * W + 500) (D + 3) d' → Deck H' a (n + 1) → Q v' H'
theorem nums {M : List Addr} {te : TE} {σ : L2.St} {H : Hp} {d : PyData} {i : Int} {B : Nat} (hd : isInt d = true) (e : i = num d) (hi : i.natAbs ≤ B) (hB : B < 2 ^ 399) (h : EvE M te σ H d) :
    EvL M (tCons (tOp (rNum fun i j => V.int (i + j)) te (tC (.int 1))) (tCons (tOp (rNum fun i j => V.int (i - j)) te (tC (.int 1))) (tCons (tCB rStrN (tCons te tNil)) (tCons (tOp (rNum fun i j => V.bl (i == j)) te (tC (.int 1))) (tCons (tUn rNegN te) tNil))))) σ H
      [.int (i + 1), .int (i - 1), .str (strN d), .bool (i == 1), .int (-i)] := by
  subst e
  have small := log2_small (B := B) (Nat.lt_trans hB (Nat.pow_lt_pow_right (by decide) (by decide))) hi
  exact ev_cons (ev_num hd h fun _ _ _ => .int _) (ev_cons (ev_num hd h fun _ _ _ => .int _) (ev_cons (ev_strN hd (by omega) h) (ev_cons (ev_num hd h fun _ _ _ => .bl _) (ev_cons (ev_negN hd h) ev_nil))))
theorem strN_od {d : PyData} {B : Nat} (hd : isInt d = true) (hi : (num d).natAbs ≤ B) (hB : B < 2 ^ 399) : (strN d).length ≤ 401 ∧ ∀ c ∈ (strN d).cps.toList, c < 128 := by
  match d, hd with
  | .bool true, _ => exact ⟨by decide +kernel, by decide +kernel⟩
  | .bool false, _ => exact ⟨by decide +kernel, by decide +kernel⟩
  | .int i, _ =>
    have small := log2_small (B := B) (Nat.lt_trans hB (Nat.pow_lt_pow_right (by decide) (by decide))) hi
    refine ⟨?_, int_plain i⟩
    have := PySem.int_text_length_le (a := i) (k := 400) (by decide) small
    show (Str.ofString (toString i)).length ≤ 401
    rw [PySem.ofString_length]
    exact this
theorem num_od {d : PyData} {i : Int} {B W D : Nat} (hd : isInt d = true) (e : i = num d) (hi : i.natAbs ≤ B) (hB : B < 2 ^ 399) : Ods (B + 1) (2 * W + 500) (D + 3) [.int (i + 1), .int (i - 1), .str (strN d), .bool (i == 1), .int (-i)] := by
  subst e
  obtain ⟨l, c⟩ := strN_od hd hi hB
  intro y hy
  simp only [List.mem_cons, List.not_mem_nil, or_false] at hy
  rcases hy with rfl | rfl | rfl | rfl | rfl
  · exact ⟨by show Int.natAbs _ ≤ _; omega, by simp only [wt]; omega, by simp only [PyData.depth]; omega⟩
  · exact ⟨by show Int.natAbs _ ≤ _; omega, by simp only [wt]; omega, by simp only [PyData.depth]; omega⟩
  · exact ⟨c, by simp only [wt]; omega, by simp only [PyData.depth]; omega⟩
  · exact ⟨trivial, by simp only [wt]; omega, by simp only [PyData.depth]; omega⟩
  · exact ⟨by show Int.natAbs _ ≤ _; omega, by simp only [wt]; omega, by simp only [PyData.depth]; omega⟩
theorem ok_odd (B : Bs mg t1 t2 t3 t4) (D : Defd K mg "_law_odd" s_odd) (C_law_any : Callee P w K mg base CX0 2 "_law_any" ["_law_deck_here", "_law_items"] spAny) : Callee P w K mg base CX0 3 "_law_odd" ["_law_deck_here", "_law_thing"] spOdd := by
  refine D.ok sc_odd (fun _ _ _ _ _ _ us hl => match us, hl with | [_, _], _ => rfl) (fun _ _ _ _ ⟨_, _, _, _, _, _, _, _, e, _⟩ => by rw [e]; rfl) fun f cdv A outer s H vs Q E hgu hr h => ?_
  obtain ⟨M, a, n, v, d, bB, bW, bD, rfl, haM, live, dk, hn, r, od, hB0, hB1, hW, q⟩ := h
  have up : ∀ {H1 H2 : Hp}, Kp [a] H1 H2 → Kp M H1 H2 := fun k => k.more fun b hb => (List.mem_singleton.mp hb) ▸ haM
  refine ⟨_, (pss_cons (ps_set (i := 2) sc_odd.nd rfl (.inl rfl) (pe_lstS (pa_cons pe_non (pa_cons pe_bl (pa_cons pe_bl (pa_cons pe_int (pa_cons pe_int (pa_cons (pe_un un_neg pe_int) (pa_cons pe_int (pa_cons (pe_op op_pow pe_int pe_int) (pa_cons pe_str (pa_cons pe_str (pa_cons pe_str (pa_cons pe_str (pa_cons (pe_tup pa_nil) (pa_cons (pe_lstS pa_nil) (pa_cons pe_dnewK (pa_cons (pe_tup (pa_cons pe_int pa_nil)) (pa_cons (pe_tup (pa_cons pe_str pa_nil)) (pa_cons (pe_tup (pa_cons (pe_tup (pa_cons pe_str (pa_cons pe_int pa_nil))) pa_nil)) (pa_cons (pe_lstS (pa_cons pe_int pa_nil)) pa_nil)))))))))))))))))))))
        (pss_cons (ps_if (pt_val (pe_callB call_isTup (by rfl) B.isinstance (by decide +kernel) (pa_cons (pv 1) (pa_cons (pe_bltn (v := .ty "tuple") (by rfl) B.tuple (by decide +kernel) rfl) pa_nil)))) (pss_one (ps_set (i := 2) sc_odd.nd rfl (.inl rfl) (pe_op op_cat (pv 2) (pe_op op_rep (pe_lstS (pa_cons (pe_callTy call_listT (by rfl) B.list (by decide +kernel) (pa_cons (pv 1) pa_nil)) (pa_cons (pe_slice sl_tupA (pv 1) po_none (po_some (pe_un un_neg pe_int))) (pa_cons (pe_op op_catA (pv 1) (pe_slice sl_tupA (pv 1) (po_some (pe_un un_neg pe_int)) po_none)) (pa_cons (pe_revT (pv 1)) (pa_cons (pe_tup (pa_cons (pv 1) pa_nil)) (pa_cons (pe_slice sl_tupA (pv 1) (po_some pe_int) po_none) pa_nil))))))) pe_int)))) (pss_one (ps_if (pt_val (pe_callB call_isStr (by rfl) B.isinstance (by decide +kernel) (pa_cons (pv 1) (pa_cons (pe_bltn (v := .ty "str") (by rfl) B.str (by decide +kernel) rfl) pa_nil)))) (pss_one (ps_set (i := 2) sc_odd.nd rfl (.inl rfl) (pe_op op_cat (pv 2) (pe_op op_rep (pe_lstS (pa_cons (pe_op op_add_str (pv 1) pe_str) (pa_cons (pe_slice sl_str (pv 1) po_none (po_some (pe_un un_neg pe_int))) (pa_cons (pe_bm0 PySem.F.plainAttrs_str PySem.F.slot_str_upper PySem.F.type_str_upper mt_upper (pv 1)) (pa_cons (pe_op op_add_str (pv 1) pe_str) (pa_cons (pe_tup (pa_cons (pv 1) pa_nil)) (pa_cons (pe_lstS (pa_cons (pv 1) pa_nil)) pa_nil))))))) pe_int)))) (pss_one (ps_if (pt_val (pe_callB call_isInt (by rfl) B.isinstance (by decide +kernel) (pa_cons (pv 1) (pa_cons (pe_bltn (v := .ty "int") (by rfl) B.int (by decide +kernel) rfl) pa_nil)))) (pss_one (ps_set (i := 2) sc_odd.nd rfl (.inl rfl) (pe_op op_cat (pv 2) (pe_op op_rep (pe_lstS (pa_cons (pe_op op_addN (pv 1) pe_int) (pa_cons (pe_op op_subN (pv 1) pe_int) (pa_cons (pe_callTy call_strN (by rfl) B.str (by decide +kernel) (pa_cons (pv 1) pa_nil)) (pa_cons (pe_cmpR op_eqN (pv 1) pe_int (nomark _)) (pa_cons (pe_un un_negN (pv 1)) pa_nil)))))) pe_int)))) pss_nil)))))
        (pss_one (ps_ret (pown C_law_any hgu (hr.mono (by omega)) (by rfl) pass0 (pa_cons (pv 0) (pa_cons (pv 2) pa_nil))))))), ?_⟩
  obtain ⟨oa, ea⟩ := dk.some
  have ev : EvL M _ [some (.ref a), some v, none] H base19 := ev_cons ev_non (ev_cons (ev_bl true) (ev_cons (ev_bl false) (ev_cons (ev_int 0) (ev_cons (ev_int 1) (ev_cons (ev_neg 1) (ev_cons (ev_int 12) (ev_cons ev_pow (ev_cons (ev_str "") (ev_cons (ev_str "a") (ev_cons (ev_str "A") (ev_cons (ev_str "ab")
    (ev_cons (ev_tup live ev_nil (by decide)) (ev_cons (ev_lst live ev_nil (by decide)) (ev_cons (ev_emp live) (ev_cons (ev_tup live (ev_cons (ev_int 0) ev_nil) (by decide)) (ev_cons (ev_tup live (ev_cons (ev_str "a") ev_nil) (by decide))
    (ev_cons (ev_tup live (ev_cons (ev_tup live (ev_cons (ev_str "a") (ev_cons (ev_int 1) ev_nil)) (by decide)) ev_nil) (by decide)) (ev_cons (ev_lst live (ev_cons (ev_int 0) ev_nil) (by decide)) ev_nil))))))))))))))))))
  refine seq_i (asg_i (lst_i (ev.run fun vs19 H2 k2 r19 => ⟨by rw [r19.length]; exact small (by decide), fun p hp _ => ?_⟩)))
  have l19 : vs19.length = 19 := r19.length
  have b19 : Ods (bB + 1) (2 * bW + 500) (bD + 3) base19 := base_od hB0
  have fin : ∀ (p' : Addr) (us : List V) (ds : List PyData) (H' : Hp), Kp [] H H' → H p' = none → H' p' = some (.lst us) → Reps M H' us ds → Ods (bB + 1) (2 * bW + 500) (bD + 3) ds → 0 < us.length → us.length ≤ 1000 →
      tCall spAny [] E0 (tCons (tVar 0) (tCons (tVar 2) tNil)) [some (.ref a), some v, some (.ref p')] H' Q := fun p' us ds H' k hp' e rs ods l0 l1 => by
    have ne : p' ≠ a := (ne_of_none ea hp').symm
    refine ⟨.ref a, rfl, .ref p', rfl, a, p', n, us, rfl, dk.keep k List.not_mem_nil, by omega, ne, e, l0, by omega, fun i v' H3 ei k3 dk3 => ?_⟩
    obtain ⟨d', ed, rd⟩ := rs.at ei
    exact q v' d' H3 (k.same.trans k3) (rd.keep (up k3)) (ods d' (List.mem_of_getElem? ed)) dk3
  have kp : Kp [] H (upd H2 p (.lst vs19)) := k2.trans (Kp.new hp)
  have np : H p = none := none_back k2 hp
  have r19' : Reps M (upd H2 p (.lst vs19)) vs19 base19 := r19.keep (Kp.new hp)
  have ep : (upd H2 p (.lst vs19)) p = some (.lst vs19) := upd_same
  generalize upd H2 p (.lst vs19) = H3 at kp r19' ep ⊢
  have r3 := r.keep (kp.same (M := M))
  have live3 := live.grow kp
  have two : ∀ {x : List PyData}, Ods (bB + 1) (2 * bW + 500) (bD + 3) x → Ods (bB + 1) (2 * bW + 500) (bD + 3) (base19 ++ (x ++ x)) := fun h d hd => by
    rcases List.mem_append.mp hd with hd | hd
    · exact b19 d hd
    · exact (List.mem_append.mp hd).elim (h d) (h d)
  refine ⟨v, rfl, M, v, d, rfl, r3, _, rfl, ?_⟩
  have lB : bB ≤ bB + 1 := Nat.le_succ _
  have sg : good (bB + 1) d := od.g.mono lB
  have sw := od.w
  have sd := od.d
  have ev1 : EvE M (tVar 1) [some (.ref a), some v, some (.ref p)] H3 d := ev_var rfl r3
  -- behind a list that grew by six
  have app : ∀ (ta : TA) (x : List PyData), EvL M ta [some (.ref a), some v, some (.ref p)] H3 x → x.length ≤ 8 → Ods (bB + 1) (2 * bW + 500) (bD + 3) x → tOp rCat (tVar 2) (tOp rRep (tLstS ta) (tC (.int 2))) [some (.ref a), some v, some (.ref p)] H3
      fun x H1 => tCall spAny [] E0 (tCons (tVar 0) (tCons (tVar 2) tNil)) [some (.ref a), some v, some x] H1 Q := fun ta x ev hx ods =>
    app_two rfl ep (by omega) ev (by omega) fun p4 us H4 k4 n4 e4 rs => by
      have lu := rs.length
      rw [List.length_append] at lu
      exact fin p4 _ _ H4 (kp.trans k4) (none_back kp n4) e4 ((r19'.keep k4.same).append rs) (two ods) (by rw [List.length_append]; omega) (by rw [List.length_append]; omega)
  have pick : ∀ {x : List PyData} {y : PyData}, y ∈ x → x.all (fun _ => true) = true := fun _ => by simp
  match d, r3, sg, sw, sd, ev1 with
  | .tuple ds, r3, sg, sw, sd, ev1 =>
    refine iteT (asg_i ?_)
    have g : goods (bB + 1) ds := sg
    simp only [wt] at sw
    simp only [PyData.depth] at sd
    have gi := goods_iff.mp g
    have di := depthAll_le.mp (Nat.le_refl (PyData.depthAll ds))
    have dl : ds.length ≤ 20000 := Nat.le_trans (wts_len ds) (by omega)
    obtain ⟨a1, b1, e1⟩ := ev_cut (K := K) (tl := tNoPart) (th := tPart (tUn (rU fun i => V.int (-i)) (tC (.int 1)))) (lo := none) (hi := some (-1)) live3 ev1 (fun H1 R h => po_no R h) (fun H1 R h => ⟨1, rfl, -1, rfl, h⟩)
    obtain ⟨a2, b2, e2⟩ := ev_cut (K := K) (tl := tPart (tUn (rU fun i => V.int (-i)) (tC (.int 1)))) (th := tNoPart) (lo := some (-1)) (hi := none) live3 ev1 (fun H1 R h => ⟨1, rfl, -1, rfl, h⟩) (fun H1 R h => po_no R h)
    obtain ⟨a3, b3, e3⟩ := ev_cut (K := K) (tl := tPart (tC (.int 1))) (th := tNoPart) (lo := some 1) (hi := none) live3 ev1 (fun H1 R h => ⟨1, rfl, h⟩) (fun H1 R h => po_no R h)
    have s1 := cut_sub ds a1 b1
    have s2 := cut_sub ds a2 b2
    have s3 := cut_sub ds a3 b3
    have w1 := wts_sub s1
    have w2 := wts_sub s2
    have w3 := wts_sub s3
    refine app _ _ (ev_cons (ev_list live3 ev1) (ev_cons e1 (ev_cons (ev_cat (K := K) live3 ev1 e2 (by have := s2.length_le; omega)) (ev_cons (ev_rev live3 ev1) (ev_cons (ev_tup live3 (ev_cons ev1 ev_nil) (by simp)) (ev_cons e3 ev_nil)))))) (by simp) fun y hy => ?_
    simp only [List.mem_cons, List.not_mem_nil, or_false] at hy
    have part : ∀ xs : List PyData, xs.Sublist ds → Od (bB + 1) (2 * bW + 500) (bD + 3) (.tuple xs) := fun xs hs =>
      ⟨goods_iff.mpr fun x hx => gi x (hs.subset hx), by have := wts_sub hs; simp only [wt]; omega, by
        have : PyData.depthAll xs ≤ PyData.depthAll ds := depthAll_le.mpr fun x hx => di x (hs.subset hx)
        simp only [PyData.depth]; omega⟩
    rcases hy with rfl | rfl | rfl | rfl | rfl | rfl
    · exact ⟨g, by simp only [wt]; omega, by simp only [PyData.depth]; omega⟩
    · exact part _ s1
    · refine ⟨goods_iff.mpr fun x hx => ?_, by simp only [wt, wts_append]; omega, ?_⟩
      · rcases List.mem_append.mp hx with hx | hx
        · exact gi x hx
        · exact gi x (s2.subset hx)
      · have : PyData.depthAll (ds ++ (ds.drop a2).take b2) ≤ PyData.depthAll ds := depthAll_le.mpr fun x hx => by
          rcases List.mem_append.mp hx with hx | hx
          · exact di x hx
          · exact di x (s2.subset hx)
        simp only [PyData.depth]; omega
    · refine ⟨goods_iff.mpr fun x hx => gi x (List.mem_reverse.mp hx), by simp only [wt, wts_reverse]; omega, ?_⟩
      have : PyData.depthAll ds.reverse ≤ PyData.depthAll ds := depthAll_le.mpr fun x hx => di x (List.mem_reverse.mp hx)
      simp only [PyData.depth]; omega
    · exact ⟨⟨g, trivial⟩, by simp only [wt, wts]; omega, by simp only [PyData.depth, PyData.depthAll]; omega⟩
    · exact part _ s3
  | .str x, r3, sg, sw, sd, ev1 =>
    refine iteF ⟨v, rfl, M, v, _, rfl, r3, _, rfl, iteT (asg_i ?_)⟩
    have g : ∀ c ∈ x.cps.toList, c < 128 := sg
    simp only [wt] at sw
    have l1 : ("a" : Str).length = 1 := rfl
    have l2 : (" " : Str).length = 1 := rfl
    have c1 : ∀ c ∈ ("a" : Str).cps.toList, c < 128 := by decide +kernel
    have c2 : ∀ c ∈ (" " : Str).cps.toList, c < 128 := by decide +kernel
    have add : ∀ y : Str, y.length = 1 → (∀ c ∈ y.cps.toList, c < 128) → Od (bB + 1) (2 * bW + 500) (bD + 3) (.str (x ++ y)) := fun y hl hc => by
      refine ⟨fun c h => ?_, ?_, by simp only [PyData.depth]; omega⟩
      · rw [str_append_toList] at h
        exact (List.mem_append.mp h).elim (g c) (hc c)
      · simp only [wt, strLen_append]; omega
    refine app _ _ (ev_cons (ev_adds ev1 (ev_str "a") (by omega)) (ev_cons (ev_cutS (tl := tNoPart) (th := tPart (tUn (rU fun i => V.int (-i)) (tC (.int 1)))) (lo := none) (hi := some (-1)) ev1 (by omega) (fun H1 R h => po_no R h) (fun H1 R h => ⟨1, rfl, -1, rfl, h⟩))
      (ev_cons (ev_upper (K := K) ev1 (by omega)) (ev_cons (ev_adds ev1 (ev_str " ") (by omega)) (ev_cons (ev_tup live3 (ev_cons ev1 ev_nil) (by simp)) (ev_cons (ev_lst live3 (ev_cons ev1 ev_nil) (by simp)) ev_nil)))))) (by simp) fun y hy => ?_
    simp only [List.mem_cons, List.not_mem_nil, or_false] at hy
    rcases hy with rfl | rfl | rfl | rfl | rfl | rfl
    · exact add _ l1 c1
    · obtain ⟨z1, z2⟩ := cutS_plain (x := x) (lo := none) (hi := some (-1))
      exact ⟨fun c hc => g c (z2 c hc), by simp only [wt]; omega, by simp only [PyData.depth]; omega⟩
    · obtain ⟨z1, z2⟩ := upper_plain x g
      exact ⟨z2, by simp only [wt]; omega, by simp only [PyData.depth]; omega⟩
    · exact add _ l2 c2
    · exact ⟨⟨g, trivial⟩, by simp only [wt, wts]; omega, by simp only [PyData.depth, PyData.depthAll]; omega⟩
    · exact ⟨⟨g, trivial⟩, by simp only [wt, wts]; omega, by simp only [PyData.depth, PyData.depthAll]; omega⟩
  | .int i, r3, sg, sw, sd, ev1 =>
    refine iteF ⟨v, rfl, M, v, _, rfl, r3, _, rfl, iteF ⟨v, rfl, M, v, _, rfl, r3, _, rfl, iteT (asg_i ?_)⟩⟩
    have ho : i.natAbs ≤ bB := od.g
    refine app _ _ (nums rfl (i := i) rfl ho hB1 ev1) (by simp) (num_od rfl rfl ho hB1)
  | .bool b, r3, sg, sw, sd, ev1 =>
    refine iteF ⟨v, rfl, M, v, _, rfl, r3, _, rfl, iteF ⟨v, rfl, M, v, _, rfl, r3, _, rfl, iteT (asg_i ?_)⟩⟩
    have ho : (num (.bool b)).natAbs ≤ bB := by cases b <;> simp [num] <;> omega
    refine app _ _ (nums rfl (i := num (.bool b)) rfl ho hB1 ev1) (by simp) (num_od rfl rfl ho hB1)
  | .none, r3, sg, sw, sd, ev1 | .list _, r3, sg, sw, sd, ev1 | .dict _, r3, sg, sw, sd, ev1 =>
    refine iteF ⟨v, rfl, M, v, _, rfl, r3, _, rfl, iteF ⟨v, rfl, M, v, _, rfl, r3, _, rfl, iteF ?_⟩⟩
    exact fin p vs19 base19 H3 kp np ep r19' b19 (by omega) (by omega)
end
end K1
end

section
set_option maxRecDepth 100000
set_option maxHeartbeats 4000000
namespace K1
open PySem PySem.Spec PyProof.Rows L2 Gd
abbrev s_bent : Stmt := topS 23
theorem sc_bent : FnScope ["_law_deck_here", "_law_thing", "_law_deep", "_law_at"] ["_law_deck_here", "_law_thing", "_law_deep"] (defScope s_bent) := ⟨rfl, rfl, rfl, by decide +kernel, rfl, by decide +kernel, by decide +kernel⟩
section
variable {P : Program} {w : World} {K : PySem.W.Frag} {mg : Str → Option Value} {base : Heap} {t1 t2 t3 t4 : Tok}
def spBent (m : Nat) : Sp := fun vs H Q _ => ∃ (M : List Addr) (a : Addr) (n : Nat) (v : V) (d : PyData) (k B W D : Nat), vs = [.ref a, v, .int k] ∧ a ∈ M ∧ Live M H ∧ k ≤ m ∧ Deck H a n ∧ n + 2 * k < 800000 ∧ Rep M H v d ∧ Od B W D d ∧ 10 ^ 20 ≤ B ∧ B < 2 ^ 399 ∧ W ≤ 20000 ∧
  ∀ v' d' H', Kp [a] H H' → Rep M H' v' d' → Od (B + 1) (2 * W + 500) (D + 3) d' → Deck H' a (n + 2 * k + 1) → Q v' H'
theorem Od.at {B W D n : Nat} {ds : List PyData} {x : PyData} (o : Od B W D (.tuple ds)) (h : ds[n]? = some x) : Od B (wt x) (D - 1) x ∧ wts ds = wts (ds.take n) + (wt x + 1) + wts (ds.drop (n + 1)) ∧ wts ds + 1 ≤ W ∧ 1 ≤ D := by
  have m := List.mem_of_getElem? h
  have w := o.w
  have d := o.d
  simp only [wt] at w
  simp only [PyData.depth] at d
  have di := depthAll_le.mp (Nat.le_refl (PyData.depthAll ds)) x m
  exact ⟨⟨goods_iff.mp o.g x m, Nat.le_refl _, by omega⟩, wts_at h, by omega, by omega⟩
theorem Od.put {B W D n : Nat} {ds : List PyData} {x y : PyData} (o : Od B W D (.tuple ds)) (h : ds[n]? = some x) (oy : Od (B + 1) (2 * wt x + 500) (D - 1 + 3) y) : Od (B + 1) (2 * W + 500) (D + 3) (.tuple (ds.take n ++ [y] ++ ds.drop (n + 1))) := by
  obtain ⟨ox, ew, hw, hd⟩ := o.at h
  have g := goods_iff.mp o.g
  have d := o.d
  simp only [PyData.depth] at d
  have di := depthAll_le.mp (Nat.le_refl (PyData.depthAll ds))
  have mem : ∀ z ∈ ds.take n ++ [y] ++ ds.drop (n + 1), z ∈ ds ∨ z = y := fun z hz => by
    rcases List.mem_append.mp hz with hz | hz
    · rcases List.mem_append.mp hz with hz | hz
      · exact .inl (List.mem_of_mem_take hz)
      · exact .inr (List.mem_singleton.mp hz)
    · exact .inl (List.mem_of_mem_drop hz)
  refine ⟨goods_iff.mpr fun z hz => ?_, ?_, ?_⟩
  · rcases mem z hz with hz | rfl
    · exact (g z hz).mono (Nat.le_succ _)
    · exact oy.g
  · have := oy.w
    simp only [wt, wts_append, wts]
    omega
  · have : PyData.depthAll (ds.take n ++ [y] ++ ds.drop (n + 1)) ≤ D + 2 := depthAll_le.mpr fun z hz => by
      rcases mem z hz with hz | rfl
      · have := di z hz; omega
      · have := oy.d; omega
    simp only [PyData.depth]; omega
theorem ok_bent0 (m k : Nat) (B : Bs mg t1 t2 t3 t4) (D : Defd K mg "_law_bent" s_bent) (C_law_draw : Callee P w K mg base CX0 1 "_law_draw" ["_law_deck_here", "_law_many"] spDraw) (C_law_odd : Callee P w K mg base CX0 3 "_law_odd" ["_law_deck_here", "_law_thing"] spOdd)
    (sub : Sp) (hk : 3 ≤ k) (C_law_bent : Callee P w K mg base CX0 k "_law_bent" ["_law_deck_here", "_law_thing", "_law_deep"] sub) (hsub : ∀ vs H Q E m', m = m' + 1 → spBent m' vs H Q E → sub vs H Q E) :
    Callee P w K mg base CX0 (k + 1) "_law_bent" ["_law_deck_here", "_law_thing", "_law_deep"] (spBent m) := by
  refine D.ok sc_bent (fun _ _ _ _ _ _ us hl => match us, hl with | [_, _, _], _ => rfl) (fun _ _ _ _ ⟨_, _, _, _, _, _, _, _, _, e, _⟩ => by rw [e]; rfl) fun f cdv A outer s H vs Q E hgu hr h => ?_
  obtain ⟨M, a, n, v, d, kk, bB, bW, bD, rfl, haM, live, hkm, dk, hn, r, od, hB0, hB1, hW, q⟩ := h
  refine ⟨_, (pss_cons (ps_if (PW.pt (pw_or (pt_cmpR op_eq (pv 2) pe_int (nomark _)) (pw_or (pt_not (pt_val (pe_callB call_isTup (by rfl) B.isinstance (by decide +kernel) (pa_cons (pv 1) (pa_cons (pe_bltn (v := .ty "tuple") (by rfl) B.tuple (by decide +kernel) rfl) pa_nil))))) (pw_or (pt_cmpR (op_eqE hr) (pv 1) (pe_tup pa_nil) (nomark _)) (pw_or1 (pt_cmpR op_eq (pown C_law_draw hgu (hr.mono (by omega)) (by rfl) pass0 (pa_cons (pv 0) (pa_cons pe_int pa_nil))) pe_int (nomark _))))))) (pss_one (ps_ret (pown C_law_odd hgu (hr.mono (by omega)) (by rfl) pass0 (pa_cons (pv 0) (pa_cons (pv 1) pa_nil))))) pss_nil)
        (pss_cons (ps_set (i := 3) sc_bent.nd rfl (.inl rfl) (pown C_law_draw hgu (hr.mono (by omega)) (by rfl) pass0 (pa_cons (pv 0) (pa_cons (pe_callB call_len (by rfl) B.len PySem.boot_len (pa_cons (pv 1) pa_nil)) pa_nil))))
        (pss_one (ps_ret (pe_op op_catA (pe_op op_catA (pe_slice sl_tupA (pv 1) po_none (po_some (pv 3))) (pe_tup (pa_cons (pown C_law_bent hgu (hr.mono (by omega)) (by rfl) pass0 (pa_cons (pv 0) (pa_cons (pe_ix (ix_tupK (K := K) rfl) (pv 1) (pv 3) (fun _ _ => rfl)) (pa_cons (pe_op op_sub (pv 2) pe_int) pa_nil)))) pa_nil))) (pe_slice sl_tupA (pv 1) (po_some (pe_op op_add (pv 3) pe_int)) po_none)))))), ?_⟩
  obtain ⟨oa, ea⟩ := dk.some
  have up : ∀ {H1 H2 : Hp}, Kp [a] H1 H2 → Kp M H1 H2 := fun k => k.more fun b hb => (List.mem_singleton.mp hb) ▸ haM
  have lup : ∀ {H1 H2 : Hp}, Kp [a] H1 H2 → (∃ o, H2 a = some o) → Live M H1 → Live M H2 := fun k e l b hb => by
    by_cases z : b = a
    · rw [z]; exact e
    · obtain ⟨o, eo⟩ := l b hb; exact ⟨o, k b o (fun q => z (List.mem_singleton.mp q)) eo⟩
  have odd : ∀ n0 H', Kp [a] H H' → Deck H' a n0 → n0 ≤ n + 2 * kk → tCall spOdd [] E0 (tCons (tVar 0) (tCons (tVar 1) tNil)) [some (.ref a), some v, some (.int kk), none] H' Q := fun n0 H' k' dk' hn0 =>
    ⟨.ref a, rfl, v, rfl, M, a, n0, v, d, bB, bW, bD, rfl, haM, lup k' dk'.some live, dk', by omega, r.keep (up k'), od, hB0, hB1, hW, fun v' d' H2 k2 r2 o2 dk2 => q v' d' H2 (k'.trans k2) r2 o2 (dk2.mono (by omega))⟩
  have draw5 : ∀ H' {R : Bool → Hp → Prop}, Kp [] H H' → (∀ (b : Bool) H2, Kp [a] H H2 → Deck H2 a (n + 1) → R b H2) → tTest (tOp rEq (tCall spDraw [] E0 (tCons (tVar 0) (tCons (tC (V.int 5)) tNil))) (tC (V.int 0))) [some (.ref a), some v, some (.int kk), none] H' R := fun H' R k' q' =>
    ⟨.ref a, rfl, a, n, 5, rfl, dk.keep k' List.not_mem_nil, by omega, by decide, by decide, fun r' H2 _ k2 dk2 => ⟨rfl, _, rfl, q' _ H2 (k'.same.trans k2) dk2⟩⟩
  refine seq_i ⟨.int kk, rfl, rfl, _, rfl, ?_⟩
  refine ite2 (fun e0 => ?_) (fun e0 => ?_)
  · exact iteT (odd n H .refl dk (by omega))
  have k1 : 1 ≤ kk := by
    rcases Nat.eq_zero_or_pos kk with h | h
    · subst h; exact absurd (decide_eq_true rfl) e0
    · exact h
  by_cases hT : isTup d = false
  · exact ⟨v, rfl, M, v, d, rfl, r, false, by rw [hT], iteT (iteT (odd n H .refl dk (by omega)))⟩
  obtain ⟨ds, rfl⟩ : ∃ ds, d = .tuple ds := by cases d <;> first | exact ⟨_, rfl⟩ | exact absurd rfl hT
  refine ⟨v, rfl, M, v, _, rfl, r, true, rfl, iteF ?_⟩
  have r0 := r
  cases r with
  | @tup p vs _ np ep rs =>
  refine ⟨.ref p, rfl, Nat.zero_le _, fun p2 h2 => ⟨p, p2, vs, rfl, rfl, Kp.new h2 _ _ List.not_mem_nil ep, upd_same, _, rfl, ?_⟩⟩
  have kE : Kp [] H (upd H p2 (.tup [])) := Kp.new h2
  refine ite2 (fun e1 => iteT (odd n _ kE.same (dk.keep kE List.not_mem_nil) (by omega))) (fun e1 => ?_)
  have vne : vs ≠ [] := fun h => e1 (by rw [h]; rfl)
  have vl : 0 < vs.length := List.length_pos_iff.mpr vne
  have ll := rs.length
  have w0 := od.w
  simp only [wt] at w0
  have lw := wts_len ds
  refine draw5 _ kE fun b H2 k2 dk2 => ?_
  cases b with
  | true => exact iteT (odd (n + 1) H2 k2 dk2 (by omega))
  | false =>
  refine iteF ?_
  dsimp only [tNext]
  refine seq_i (asg_i ?_)
  have npa : p ∉ [a] := fun z => np ((List.mem_singleton.mp z) ▸ haM)
  have rs2 := rs.keep (up k2)
  have ep2 := k2 _ _ npa ep
  refine ⟨.ref a, rfl, .ref p, rfl, .ref p, vs.length, rfl, .inr ⟨vs, .inl (.inl ep2), rfl⟩, a, n + 1, vs.length, rfl, dk2, by omega, vl, by omega, fun at_ H3 hat k3 dk3 => ?_⟩
  have k03 : Kp [a] H H3 := k2.trans k3
  have ep3 := k3 _ _ npa ep2
  have rs3 := rs2.keep (up k3)
  have live3 : Live M H3 := lup k03 dk3.some live
  have hd : at_ < ds.length := by omega
  have ev1 : EvE M (tVar 1) [some (.ref a), some (.ref p), some (.int kk), some (.int at_)] H3 (.tuple ds) := ev_var rfl (.tup np ep3 rs3)
  obtain ⟨u, eu, ru⟩ : ∃ u, vs[at_]? = some u ∧ Rep M H3 u ds[at_] := by
    have hv : vs[at_]? = some vs[at_] := List.getElem?_eq_getElem (by omega)
    obtain ⟨x, ex, rx⟩ := rs3.at hv
    refine ⟨_, hv, ?_⟩
    rw [List.getElem?_eq_getElem hd] at ex
    cases ex
    exact rx
  have eat : ds[at_]? = some ds[at_] := List.getElem?_eq_getElem hd
  generalize ds[at_] = x at ru eat
  obtain ⟨ox, ew, hw, hD⟩ := od.at eat
  have tl : (ds.take at_).length = at_ := by rw [List.length_take]; omega
  refine (ev_take (K := K) (n := at_) (th := tPart (tVar 3)) live3 ev1 (fun H1 R h => ⟨.int at_, rfl, at_, rfl, h⟩)).run fun v1 H4 k4 r1 => ?_
  refine ⟨.ref a, rfl, .ref p, rfl, .int at_, rfl, p, vs, at_, u, rfl, rfl, .inl (.inl (k4 _ _ List.not_mem_nil ep3)), atI_nat eu, .int kk, rfl, kk, 1, rfl, rfl, ?_⟩
  obtain ⟨m', rfl⟩ : ∃ m', m = m' + 1 := ⟨m - 1, by omega⟩
  have ek : (kk : Int) - 1 = ((kk - 1 : Nat) : Int) := by omega
  refine hsub _ _ _ _ m' rfl ⟨M, a, n + 2, u, x, kk - 1, bB, wt x, bD - 1, ?_, haM, live3.grow k4, by omega, dk3.keep k4 List.not_mem_nil, by omega, ru.keep k4.same, ox, hB0, hB1, by omega, fun v' d' H5 k5 r5 o5 dk5 => ?_⟩
  · show [V.ref a, u, V.int ((kk : Int) - 1)] = _
    rw [ek]
  refine ⟨by show 1 ≤ sizeLine; decide, fun p6 h6 => ?_⟩
  have live5 : Live M H5 := lup k5 dk5.some (live3.grow k4)
  have r6 : Rep M (upd H5 p6 (.tup [v'])) (.ref p6) (.tuple [d']) := .tup (live5.fresh h6) upd_same (.cons (r5.keep (Kp.new h6)) .nil)
  have k6 : Kp [] H5 (upd H5 p6 (.tup [v'])) := Kp.new h6
  have od' := od.put eat o5
  generalize upd H5 p6 (.tup [v']) = H6 at r6 k6
  have k36 : Kp [a] H3 H6 := (k4.same.trans k5).trans k6.same
  have live6 := live5.grow k6
  refine cat_v (K := K) live6 (r1.keep (up (k5.trans k6.same))) r6 (by rw [tl]; show at_ + 1 ≤ 100000; omega) fun x7 H7 k7 r7 => ?_
  have live7 := live6.grow k7
  have k37 := k36.trans k7.same
  have ev7 : EvE M (tVar 1) [some (.ref a), some (.ref p), some (.int kk), some (.int at_)] H7 (.tuple ds) := ev_var rfl (.tup np (k37 _ _ npa ep3) (rs3.keep (up k37)))
  refine (ev_drop (K := K) (n := at_ + 1) (tl := tPart (tOp (rI0 fun i j => V.int (i + j)) (tVar 3) (tC (V.int 1)))) live7 ev7 (fun H1 R h => ⟨.int at_, rfl, at_, 1, rfl, rfl, _, rfl, h⟩)).run fun v8 H8 k8 r8 => ?_
  refine cat_v (K := K) (live7.grow k8) (r7.keep k8.same) r8 (by rw [List.length_append, tl, List.length_drop]; show at_ + 1 + _ ≤ 100000; omega) fun x9 H9 k9 r9 => ?_
  exact q x9 _ H9 (k03.trans (k37.trans (k8.trans k9).same)) r9 od' ((dk5.keep (k6.trans (k7.trans (k8.trans k9))) List.not_mem_nil).mono (by omega))
theorem ok_bent (B : Bs mg t1 t2 t3 t4) (D : Defd K mg "_law_bent" s_bent) (C_law_draw : Callee P w K mg base CX0 1 "_law_draw" ["_law_deck_here", "_law_many"] spDraw) (C_law_odd : Callee P w K mg base CX0 3 "_law_odd" ["_law_deck_here", "_law_thing"] spOdd) :
    ∀ m : Nat, Callee P w K mg base CX0 (4 + m) "_law_bent" ["_law_deck_here", "_law_thing", "_law_deep"] (spBent m)
  | 0 => ok_bent0 0 3 B D C_law_draw C_law_odd (fun _ _ _ _ => False) (Nat.le_refl 3) (D.ok sc_bent (fun _ _ _ _ _ _ us hl => match us, hl with | [_, _, _], _ => rfl) (fun _ _ _ _ h => h.elim) (fun _ _ _ _ _ _ _ _ _ _ _ h => h.elim)) fun _ _ _ _ m' h => absurd h (by omega)
  | m + 1 => ok_bent0 (m + 1) (4 + m) B D C_law_draw C_law_odd (spBent m) (by omega) (ok_bent B D C_law_draw C_law_odd m) fun _ _ _ _ m' h h2 => by
      cases (by omega : m' = m)
      exact h2
end
end K1
end

section
set_option maxRecDepth 100000
set_option maxHeartbeats 2000000
namespace K1
open PySem PySem.Spec PyProof.Rows L2 Gd
abbrev s_turned : Stmt := topS 18
theorem sc_turned : FnScope ["_law_deck_here", "_law_items", "_law_left", "_law_found"] ["_law_deck_here", "_law_items"] (defScope s_turned) := ⟨rfl, rfl, rfl, by decide +kernel, rfl, by decide +kernel, by decide +kernel⟩
section
variable {P : Program} {w : World} {K : PySem.W.Frag} {mg : Str → Option Value} {base : Heap} {t1 t2 t3 t4 : Tok}
theorem erase_map {α β : Type} (f : α → β) : ∀ (l : List α) (i : Nat), (l.map f).eraseIdx i = (l.eraseIdx i).map f
  | [], _ => rfl
  | _ :: _, 0 => rfl
  | x :: r, i + 1 => by
    show f x :: (r.map f).eraseIdx i = f x :: (r.eraseIdx i).map f
    rw [erase_map f r i]
def spTurned : Sp := fun vs H Q _ => ∃ (a p : Addr) (n : Nat) (ss : List Str), vs = [.ref a, .ref p] ∧ Deck H a n ∧ n < 800000 ∧ p ≠ a ∧ H p = some (.lst (ss.map V.str)) ∧ ss.length ≤ 40 ∧ (∀ s ∈ ss, Wd s) ∧
  ∀ p' (ss' : List Str) H', Kp [a] H H' → H p' = none → H' p' = some (.lst (ss'.map V.str)) → ss'.length = ss.length → (∀ s ∈ ss', Wd s) → Deck H' a (n + 40) → Q (.ref p') H'
theorem ok_turned (B : Bs mg t1 t2 t3 t4) (D : Defd K mg "_law_turned" s_turned) (C_law_draw : Callee P w K mg base CX0 1 "_law_draw" ["_law_deck_here", "_law_many"] spDraw) : Callee P w K mg base CX0 2 "_law_turned" ["_law_deck_here", "_law_items"] spTurned := by
  refine D.ok sc_turned (fun _ _ _ _ _ _ us hl => match us, hl with | [_, _], _ => rfl) (fun _ _ _ _ ⟨_, _, _, _, e, _⟩ => by rw [e]; rfl) fun f cdv A outer s H vs Q E hgu hr h => ?_
  obtain ⟨a, p, n, ss, rfl, dk, hn, npa, ep, hss, ws, q⟩ := h
  refine ⟨_, (pss_cons (ps_par (i := 2) (j := 3) (by rfl) sc_turned.nd rfl rfl (by decide) rfl rfl (pa_cons (pe_callTy call_list_of (by rfl) B.list (by decide +kernel) (pa_cons (pv 1) pa_nil)) (pa_cons (pe_lstS pa_nil) pa_nil)) (by rfl))
        (pss_cons (ps_while PassesOwn.never (pt_cmpR (op_neLE hr) (pv 2) (pe_lstS pa_nil) (nomark _)) (pss_one (ps_expr (pe_bm PySem.F.plainAttrs_list PySem.F.slot_list_append PySem.F.type_list_append mt_append (pv 3) (pa_cons (pe_bm PySem.F.plainAttrs_list PySem.F.slot_list_pop PySem.F.type_list_pop mt_popAt (pv 2) (pa_cons (pown C_law_draw hgu (hr.mono (by omega)) (by rfl) pass0 (pa_cons (pv 0) (pa_cons (pe_callB call_len (by rfl) B.len PySem.boot_len (pa_cons (pv 2) pa_nil)) pa_nil))) pa_nil)) pa_nil)))))
        (pss_one (ps_ret (pv 3))))), ?_⟩
  obtain ⟨oa, ea⟩ := dk.some
  refine ⟨.ref p, rfl, p, _, rfl, .inl (.inl (.inl ep)), fun l hl => ⟨Nat.zero_le _, fun fo hf _ => ⟨_, _, rfl, ?_⟩⟩⟩
  have nla : l ≠ a := (ne_of_none ea hl).symm
  have k1 : Kp [] H (upd H l (.lst (ss.map V.str))) := Kp.new hl
  have nfa : fo ≠ a := (ne_of_none (k1 _ _ List.not_mem_nil ea) hf).symm
  have nlf : l ≠ fo := ne_of_none upd_same hf
  have nf0 : H fo = none := by
    cases c : H fo with
    | none => rfl
    | some o => have := k1 _ _ List.not_mem_nil c; rw [hf] at this; cases this
  have k2 : Kp [] H (upd (upd H l (.lst (ss.map V.str))) fo (.lst [])) := k1.trans (Kp.new hf)
  have el0 : (upd (upd H l (.lst (ss.map V.str))) fo (.lst [])) l = some (.lst (ss.map V.str)) := Kp.new (M := []) hf _ _ List.not_mem_nil upd_same
  have ef0 : (upd (upd H l (.lst (ss.map V.str))) fo (.lst [])) fo = some (.lst []) := upd_same
  generalize upd (upd H l (.lst (ss.map V.str))) fo (.lst []) = H0 at k2 el0 ef0
  refine ⟨fun m σ H' => ∃ ls fs : List Str, m = ls.length ∧ σ = [some (.ref a), some (.ref p), some (.ref l), some (.ref fo)] ∧ Kp [fo, l, a] H H' ∧ H' l = some (.lst (ls.map V.str)) ∧ H' fo = some (.lst (fs.map V.str)) ∧ ls.length + fs.length = ss.length ∧ (∀ s ∈ ls, Wd s) ∧ (∀ s ∈ fs, Wd s) ∧ Deck H' a (n + fs.length),
    ⟨_, ss, [], rfl, rfl, k2.same, el0, ef0, rfl, ws, nofun, dk.keep k2 List.not_mem_nil⟩, ?_⟩
  rintro m σ H1 ⟨ls, fs, rfl, rfl, k, el, ef, hlen, wl, wf, dk1⟩
  refine ⟨.ref l, rfl, Nat.zero_le _, fun b hb _ => ⟨l, b, _, rfl, rfl, Kp.new (M := []) hb _ _ List.not_mem_nil el, upd_same, _, rfl, ?_⟩⟩
  have kb : Kp [] H1 (upd H1 b (.lst [])) := Kp.new hb
  have el := kb _ _ List.not_mem_nil el
  have ef := kb _ _ List.not_mem_nil ef
  have dk1 := dk1.keep kb List.not_mem_nil
  have k := k.trans (kb.same (M := [fo, l, a]))
  generalize upd H1 b (.lst []) = H2 at el ef dk1 k
  clear kb hb
  cases ls with
  | nil =>
    refine iteF ⟨.ref fo, rfl, q fo fs H2 (Kp.drop hl (Kp.drop nf0 k)) nf0 ef (by rw [← hlen]; simp) wf (dk1.mono (by simp at hlen; omega))⟩
  | cons x r =>
    refine iteT ⟨fun σ' H' => ∃ ls fs : List Str, ls.length = r.length ∧ σ' = [some (.ref a), some (.ref p), some (.ref l), some (.ref fo)] ∧ Kp [fo, l, a] H H' ∧ H' l = some (.lst (ls.map V.str)) ∧ H' fo = some (.lst (fs.map V.str)) ∧ ls.length + fs.length = ss.length ∧ (∀ s ∈ ls, Wd s) ∧ (∀ s ∈ fs, Wd s) ∧ Deck H' a (n + fs.length),
      fun σ' H' ⟨ls, fs, e, z⟩ => ⟨r.length, Nat.lt_succ_self _, ls, fs, e.symm, z⟩, ?_⟩
    have hl2 : (x :: r).length ≤ 40 := by omega
    simp only [List.length_cons] at hlen hl2
    refine ⟨.ref fo, rfl, .inl ⟨rfl, _, .inl (.inl ef)⟩, .ref l, rfl, .inl ⟨rfl, _, .inl (.inl el)⟩, .ref a, rfl, .ref l, rfl, .ref l, (x :: r).length, rfl, .inl ⟨_, .inl (.inl el), by simp⟩, a, n + fs.length, (x :: r).length, rfl, dk1, by omega, Nat.succ_pos _, by show r.length + 1 < 1073741824; omega, fun j H3 hj k3 dk3 => ?_⟩
    have hj : j < r.length + 1 := hj
    have el3 := kp1 k3 nla el
    have ef3 := kp1 k3 nfa ef
    have ex : (x :: r)[j]? = some (x :: r)[j] := List.getElem?_eq_getElem hj
    generalize (x :: r)[j] = y at ex
    refine ⟨l, _, j, j, .str y, rfl, rfl, el3, by omega, by omega, ?_, by rw [List.getElem?_map, ex]; rfl, ?_⟩
    · have : ((x :: r).map V.str).length = r.length + 1 := by simp
      rw [this]
      unfold seqIndex?
      simp
      omega
    have ef4 : (upd H3 l (.lst (((x :: r).map V.str).eraseIdx j))) fo = some (.lst (fs.map V.str)) := by rw [upd_ne nlf.symm]; exact ef3
    refine ⟨fo, _, .str y, rfl, rfl, ef4, small1000 (by rw [List.length_map]; omega), ?_⟩
    have em : ((x :: r).map V.str).eraseIdx j = ((x :: r).eraseIdx j).map V.str := erase_map _ _ _
    rw [em]
    have nal : a ∉ [l] := fun z => nla (List.mem_singleton.mp z).symm
    have naf : a ∉ [fo] := fun z => nfa (List.mem_singleton.mp z).symm
    refine ⟨(x :: r).eraseIdx j, fs ++ [y], by rw [List.length_eraseIdx]; simp; omega, rfl, ((k.trans (k3.more (by simp))).trans (Kp.put (by simp))).trans (Kp.put (by simp)), ?_, ?_, ?_, fun s hs => wl s (List.mem_of_mem_eraseIdx hs), fun s hs => ?_, ?_⟩
    · rw [upd_ne nlf]; exact upd_same
    · rw [upd_same, List.map_append]; rfl
    · rw [List.length_eraseIdx, List.length_append]; simp; split <;> omega
    · rcases List.mem_append.mp hs with hs | hs
      · exact wf s hs
      · rw [List.mem_singleton.mp hs]; exact wl y (List.mem_of_getElem? ex)
    · rw [List.length_append]
      exact (dk3.keep (M := [l]) (Kp.put (by simp)) nal).keep (M := [fo]) (Kp.put (by simp)) naf
end
end K1
end

section
set_option maxRecDepth 100000
set_option maxHeartbeats 2000000
namespace K1
open PySem PySem.Spec PyProof.Rows L2 Gd
abbrev s_catalog : Stmt := topS 21
theorem sc_catalog : FnScope ["_law_deck_here", "_law_many", "_law_found", "_law_most", "_law_name", "_law_versions", "_law_turn"] ["_law_deck_here", "_law_many"] (defScope s_catalog) := ⟨rfl, rfl, rfl, by decide +kernel, rfl, by decide +kernel, by decide +kernel⟩
/-- a release: a short name, few versions -/
def Rel (d : PyData) : Prop := ∃ (s : Str) (ns : List Int), d = .tuple [.str s, .tuple (ns.map .int)] ∧ Wd s ∧ ns.length ≤ 4 ∧ ∀ i ∈ ns, i.natAbs ≤ 2000000000
section
variable {P : Program} {w : World} {K : PySem.W.Frag} {mg : Str → Option Value} {base : Heap} {t1 t2 t3 t4 : Tok}
theorem Reps.of_ints {M : List Addr} {H : Hp} : ∀ ns : List Int, Reps M H (ns.map V.int) (ns.map PyData.int)
  | [] => .nil
  | i :: r => .cons (.int i) (Reps.of_ints r)
theorem most_of {i : Nat} {v : V} {x : Int} (hx : x = 1000000000) (h : [V.int 3, V.int 6, V.int 12, V.int x][i]? = some v) : ∃ m : Nat, v = .int m ∧ 0 < m ∧ m ≤ 1000000000 := by
  subst hx
  match i, h with
  | 0, h => exact ⟨3, (Option.some.inj h).symm, by decide, by decide⟩
  | 1, h => exact ⟨6, (Option.some.inj h).symm, by decide, by decide⟩
  | 2, h => exact ⟨12, (Option.some.inj h).symm, by decide, by decide⟩
  | 3, h => exact ⟨1000000000, (Option.some.inj h).symm, by decide, by decide⟩
  | j + 4, h => simp at h
theorem ints_of' {Pr : Int → Prop} : ∀ acc : List V, (∀ y ∈ acc, ∃ i : Int, y = V.int i ∧ Pr i) → ∃ ns : List Int, acc = ns.map V.int ∧ ∀ i ∈ ns, Pr i
  | [], _ => ⟨[], rfl, nofun⟩
  | y :: r, h => by
    obtain ⟨i, rfl, hi⟩ := h y List.mem_cons_self
    obtain ⟨ns, rfl, hn⟩ := ints_of' r fun z hz => h z (List.mem_cons_of_mem _ hz)
    exact ⟨i :: ns, rfl, fun j hj => (List.mem_cons.mp hj).elim (fun e => e ▸ hi) (hn j)⟩
/-- the releases at f so far -/
def Rels (a f : Addr) (H1 : Hp) (n k : Nat) (H : Hp) : Prop := Kp [f, a] H1 H ∧ Deck H a n ∧ ∃ us ds, H f = some (.lst us) ∧ us.length = k ∧ Reps [f, a] H us ds ∧ ∀ d ∈ ds, Rel d
def spCatalog : Sp := fun vs H Q _ => ∃ (a : Addr) (n m : Nat), vs = [.ref a, .int m] ∧ Deck H a n ∧ n < 700000 ∧ 1 ≤ m ∧ m ≤ 12 ∧ ∀ v ds H', Kp [a] H H' → Rep [a] H' v (.tuple ds) → ds.length = m → (∀ d ∈ ds, Rel d) → Deck H' a (n + 100) → Q v H'
theorem ok_catalog (B : Bs mg t1 t2 t3 t4) (D : Defd K mg "_law_catalog" s_catalog) (C_law_draw : Callee P w K mg base CX0 1 "_law_draw" ["_law_deck_here", "_law_many"] spDraw) (C_law_any : Callee P w K mg base CX0 2 "_law_any" ["_law_deck_here", "_law_items"] spAny)
    (C_law_names : Callee P w K mg base CX0 3 "_law_names" ["_law_deck_here", "_law_many"] spNames) : Callee P w K mg base CX0 4 "_law_catalog" ["_law_deck_here", "_law_many"] spCatalog := by
  refine D.ok sc_catalog (fun _ _ _ _ _ _ us hl => match us, hl with | [_, _], _ => rfl) (fun _ _ _ _ ⟨_, _, _, e, _⟩ => by rw [e]; rfl) fun f cdv A outer s H vs Q E hgu hr h => ?_
  obtain ⟨a, n, m, rfl, dk, hn, hm0, hm, q⟩ := h
  refine ⟨_, (pss_cons (ps_asg (pe_tup (pa_cons (pe_lstS pa_nil) (pa_cons (pown C_law_any hgu (hr.mono (by omega)) (by rfl) pass0 (pa_cons (pv 0) (pa_cons (pe_lstS (pa_cons pe_int (pa_cons pe_int (pa_cons pe_int (pa_cons (pe_op op_pow pe_int pe_int) pa_nil))))) pa_nil))) pa_nil))) (pg_tup rfl (pgs_cons (pg_name (i := 2) sc_catalog.nd rfl (.inl rfl)) (pgs_cons (pg_name (i := 3) sc_catalog.nd rfl (.inr rfl)) pgs_nil))))
        (pss_cons (ps_for PassesOwn.never rfl (pi_list (pown C_law_names hgu (hr.mono (by omega)) (by rfl) pass0 (pa_cons (pv 0) (pa_cons (pv 1) pa_nil)))) (pg_name (i := 4) sc_catalog.nd rfl (.inl rfl)) (pss_cons (ps_setLc (i := 5) (own := [("_law_turn", 6)])  rfl sc_catalog.nd rfl rfl (sw_true rfl rfl rfl (by decide +kernel)) (pi_range1 (by rfl) B.range (pa_cons (pe_op op_add pe_int (pown C_law_draw hgu (hr.mono (by omega)) (by rfl) pass0 (pa_cons (pv 0) (pa_cons pe_int pa_nil)))) pa_nil)) (blkOk_by (N := ["_law_deck_here", "_law_many", "_law_found", "_law_most", "_law_name", "_law_versions", "_law_turn"]) (sc := defScope s_catalog) (by decide +kernel)) (fun _ _ _ _ _ => (pg_name (i := 6) sc_catalog.nd rfl (.inl rfl))) (fun _ _ _ _ _ => pts_nil) (fun _ _ _ _ _ => (pown C_law_draw hgu (hr.mono (by omega)) (by rfl) pass0 (pa_cons (pv 0) (pa_cons (pv 3) pa_nil)))))
        (pss_one (ps_expr (pe_bm PySem.F.plainAttrs_list PySem.F.slot_list_append PySem.F.type_list_append mt_append (pv 2) (pa_cons (pe_tup (pa_cons (pv 4) (pa_cons (pe_callTy (call_tuple_ofK (K := K) rfl) (by rfl) B.tuple (by decide +kernel) (pa_cons (pe_callB (cr_sortedSet rfl) (by rfl) B.sorted (by decide +kernel) (pa_cons (pe_callTy (cr_setI (K := K) (w := w) rfl rfl rfl) (by rfl) B.set (by decide +kernel) (pa_cons (pv 5) pa_nil)) pa_nil)) pa_nil)) pa_nil))) pa_nil))))))
        (pss_one (ps_ret (pe_callTy (call_tuple_ofK (K := K) rfl) (by rfl) B.tuple (by decide +kernel) (pa_cons (pv 2) pa_nil)))))), ?_⟩
  obtain ⟨oa, ea⟩ := dk.some
  refine ⟨Nat.zero_le _, fun fo hf _ => ?_⟩
  have nfa : fo ≠ a := (ne_of_none ea hf).symm
  refine ⟨.ref a, rfl, 10, 9, rfl, rfl, ⟨by decide, by decide, by decide⟩, by show 4 ≤ sizeLine; decide, fun it hit _ => ?_⟩
  have k1 : Kp [] H (upd H fo (.lst [])) := Kp.new hf
  have ef1 : (upd H fo (.lst [])) fo = some (.lst []) := upd_same
  generalize upd H fo (.lst []) = H1 at k1 ef1 hit
  have nit : it ≠ a := (ne_of_none (k1 _ _ List.not_mem_nil ea) hit).symm
  refine ⟨a, it, n, _, rfl, (dk.keep k1 List.not_mem_nil).keep (M := []) (Kp.new hit) List.not_mem_nil, by omega, nit, upd_same, by decide, by decide, fun i v H2 ei k2 dk2 => ?_⟩
  obtain ⟨mo, rfl, mo0, mo1⟩ := most_of (by decide) ei
  have k12 : Kp [a] H H2 := (k1.same.trans (Kp.new hit)).trans k2
  have ef2 : H2 fo = some (.lst []) := kp1 k2 nfa (Kp.new (M := []) hit _ _ List.not_mem_nil ef1)
  refine ⟨by show 2 ≤ sizeLine; decide, fun tp htp => ?_⟩
  refine ⟨tp, _, rfl, .inl (.inl upd_same), rfl, _, _, rfl, _, _, rfl, rfl, ?_⟩
  have k3 : Kp [] H2 (upd H2 tp (.tup [.ref fo, .int mo])) := Kp.new htp
  have ef3 := k3 _ _ List.not_mem_nil ef2
  have dk3 := dk2.keep k3 List.not_mem_nil
  have k13 : Kp [a] H (upd H2 tp (.tup [.ref fo, .int mo])) := k12.trans k3.same
  generalize upd H2 tp (.tup [.ref fo, .int mo]) = H3 at ef3 dk3 k13
  refine ⟨.ref a, rfl, .int m, rfl, a, n + 1, m, rfl, dk3, by omega, hm, fun p ss H4 k4 np ep hss wss dk4 => ⟨p, rfl, ⟨_, .inl (.inl ep)⟩, ?_⟩⟩
  have ef4 := kp1 k4 nfa ef3
  have npf : p ≠ fo := (ne_of_none ef3 np).symm
  obtain ⟨oa3, ea3⟩ := dk3.some
  have npa : p ≠ a := (ne_of_none ea3 np).symm
  have ip : p ∉ [fo, a] := by simp [npf, npa]
  have k14 : Kp [a] H H4 := k13.trans k4
  refine for_it (walk_list (K := K) (a := p) (xs := ss.map V.str)) (fun i σ H' => ∃ v4 v5, σ = [some (.ref a), some (.int m), some (.ref fo), some (.int mo), v4, v5, none] ∧ Rels a fo H4 (n + 3 + 5 * i) i H')
    ⟨none, none, rfl, .refl, dk4.mono (by omega), [], [], ef4, rfl, .nil, nofun⟩ (fun i σ H' _ ⟨_, _, _, r⟩ => .inl (.inl (r.1 p _ ip ep))) ?_ ?_
  · rintro i x σ Hx H5 hi ⟨v4, v5, rfl, kp5, dk5, us, ds, ef5, hlu, r5, rel⟩ ⟨rfl, ex⟩
    rw [List.length_map, hss] at hi
    rw [List.getElem?_map] at ex
    obtain ⟨s1, es1, rfl⟩ := Option.map_eq_some_iff.mp ex
    have ws1 := wss s1 (List.mem_of_getElem? es1)
    refine ⟨.ref a, rfl, a, n + 3 + 5 * i, 3, rfl, dk5, by omega, by decide, by decide, fun r H6 hr6 k6 dk6 => ⟨1, r, rfl, rfl, _, rfl, by omega, by omega, fun DD hD => ?_⟩⟩
    have ef6 := kp1 k6 nfa ef5
    have up : ∀ {Hy Hz : Hp}, Kp [a] Hy Hz → Kp [fo, a] Hy Hz := fun k => k.more (by simp)
    have nDf : DD ≠ fo := (ne_of_none ef6 hD).symm
    refine lc_deck (a := a) (c := 1) (m := n + 3 + 5 * i + 1) (walk_range (lo := 0) (n := (1 + (r : Int)).toNat)) (small (by omega)) hD dk6 (fun y => ∃ i : Int, y = V.int i ∧ i.natAbs ≤ 1000000000) (fun _ _ => trivial)
      (fun j x H' H7 hj k dk' y Kt hk => ?_) fun acc H7 k7 dk7 ed hl hR => ?_
    · obtain ⟨rfl, rfl⟩ := y
      exact ⟨rfl, .ref a, rfl, .int mo, rfl, a, _, mo, rfl, dk', by omega, mo0, by omega, fun r' H8 hr8 k8 dk8 => hk _ _ k8 dk8 ⟨_, rfl, by omega⟩⟩
    · obtain ⟨ns, rfl, hns⟩ := ints_of' acc hR
      rw [List.length_map] at hl
      have ln : ns.length ≤ 3 := by omega
      have ef7 := kp1 k7 nfa ef6
      refine ⟨.ref fo, rfl, .inl ⟨rfl, _, .inl (.inl ef7)⟩, .str s1, rfl, .ref DD, rfl, DD, ns, rfl, .inl (.inl ed), by omega, fun p1 c hp1 hc => ?_⟩
      refine ⟨p1, _, c, rfl, upd_same, by omega, fun n2 p2 _ mem len hp2 => ?_⟩
      refine ⟨p2, _, rfl, .inl ⟨.inl (.inl upd_same), fun q1 hq1 => ⟨by show 2 ≤ sizeLine; decide, fun q2 hq2 => ?_⟩⟩⟩
      have c1 : Kp [] H7 (upd H7 p1 (SetO w p1 (fun j => decide (j ∈ ns)) c)) := Kp.new hp1
      have c2 := c1.trans (Kp.new hp2 (o := .lst (n2.map V.int)))
      have c3 := c2.trans (Kp.new hq1 (o := .tup (n2.map V.int)))
      have c4 := c3.trans (Kp.new hq2 (o := .tup [.str s1, .ref q1]))
      obtain ⟨oa7, ea7⟩ := dk7.some
      have fr : ∀ {t : Addr} {Hz : Hp}, Kp [] H7 Hz → Hz t = none → t ∉ [fo, a] := fun k e => by
        have h1 := ne_of_none (k _ _ List.not_mem_nil ef7) e
        have h2 := ne_of_none (k _ _ List.not_mem_nil ea7) e
        simp [h1.symm, h2.symm]
      have i1 := fr c2 hq1
      have i2 := fr c3 hq2
      refine ⟨fo, us, .ref q2, rfl, rfl, c4 _ _ List.not_mem_nil ef7, small1000 (by omega), ?_⟩
      have row : Rep [fo, a] (upd (upd (upd (upd H7 p1 (SetO w p1 (fun j => decide (j ∈ ns)) c)) p2 (.lst (n2.map V.int))) q1 (.tup (n2.map V.int))) q2 (.tup [.str s1, .ref q1])) (.ref q2) (.tuple [.str s1, .tuple (n2.map .int)]) :=
        .tup i2 upd_same (.cons (.str _) (.cons (.tup i1 (Kp.new (M := []) hq2 _ _ List.not_mem_nil upd_same) (Reps.of_ints n2)) .nil))
      generalize upd (upd (upd (upd H7 p1 (SetO w p1 (fun j => decide (j ∈ ns)) c)) p2 (.lst (n2.map V.int))) q1 (.tup (n2.map V.int))) q2 (.tup [.str s1, .ref q1]) = H8 at c4 row
      have kk : Kp [fo, a] H5 H8 := ((up k6).trans (up k7)).trans c4.same
      have kput : Kp [fo, a] H8 (upd H8 fo (.lst (us ++ [.ref q2]))) := Kp.put (by simp)
      refine ⟨_, _, rfl, (kp5.trans kk).trans kput, ?_, us ++ [.ref q2], ds ++ [.tuple [.str s1, .tuple (n2.map .int)]], upd_same, by rw [List.length_append, hlu]; rfl, ((r5.keep kk).append (.cons row .nil)).keep kput, fun d hd => ?_⟩
      · exact ((dk7.keep c4 List.not_mem_nil).keep (M := [fo]) (Kp.put (by simp)) (fun z => nfa (List.mem_singleton.mp z).symm)).mono (by omega)
      · rcases List.mem_append.mp hd with hd | hd
        · exact rel d hd
        · rw [List.mem_singleton.mp hd]
          exact ⟨s1, n2, rfl, ws1, by omega, fun j hj => by
            have := hns j (of_decide_eq_true ((mem j).mp hj))
            omega⟩
  · rintro σ H5 ⟨v4, v5, rfl, kp5, dk5, us, ds, ef5, hlu, r5, rel⟩
    rw [List.length_map, hss] at hlu dk5
    refine ⟨.ref fo, rfl, fo, us, rfl, .inl ⟨.inl (.inl ef5), fun t ht => ?_⟩⟩
    obtain ⟨oa5, ea5⟩ := dk5.some
    have kn : Kp [] H5 (upd H5 t (.tup us)) := Kp.new ht
    have nta : t ∉ [a] := fun z => ne_of_none ea5 ht (List.mem_singleton.mp z).symm
    have kH : Kp [a] H H5 := Kp.drop hf ((k14.more (by simp)).trans kp5)
    exact q (.ref t) ds _ (kH.trans kn.same) (.tup nta upd_same ((r5.keep kn.same).less (by simp))) (by rw [← r5.length]; exact hlu) rel ((dk5.keep kn List.not_mem_nil).mono (by omega))
end
end K1
end

section
set_option maxRecDepth 100000
set_option maxHeartbeats 2000000
namespace K1
open PySem PySem.Spec PyProof.Rows L2 Gd
abbrev s_chain : Stmt := topS 20
theorem sc_chain : FnScope ["_law_deck_here", "_law_steps", "_law_more", "_law_names_here", "_law_base", "_law_rows", "_law_at", "_law_near", "_law_some"] ["_law_deck_here", "_law_steps", "_law_more"] (defScope s_chain) := ⟨rfl, rfl, rfl, by decide +kernel, rfl, by decide +kernel, by decide +kernel⟩
/-- a release of two versions -/
def Rel2 (d : PyData) : Prop := ∃ (s : Str) (i j : Int), d = .tuple [.str s, .tuple [.int i, .int j]] ∧ Wd s ∧ i.natAbs ≤ 1000000100 ∧ j.natAbs ≤ 1000000100
theorem Rel2.rel {d : PyData} (h : Rel2 d) : Rel d := by
  obtain ⟨s, i, j, rfl, ws, hi, hj⟩ := h
  refine ⟨s, [i, j], rfl, ws, by show 2 ≤ 4; decide, fun k hk => ?_⟩
  simp only [List.mem_cons, List.not_mem_nil, or_false] at hk
  rcases hk with rfl | rfl <;> omega
theorem rels_alike {ds : List PyData} (h : ∀ d ∈ ds, Rel d) : W.AllAlike ds := fun d hd e he => by
  obtain ⟨s, ns, rfl, _⟩ := h d hd
  obtain ⟨t, ms, rfl, _⟩ := h e he
  simp [W.alike, W.alikeAll, W.alike_ints]
theorem rels_sortable {ds : List PyData} (h : ∀ d ∈ ds, Rel d) : W.Sortable ds := .inl fun d hd => by
  obtain ⟨s, ns, rfl, _⟩ := h d hd
  exact ⟨_, _, rfl⟩
theorem none_bk {H H' : Hp} {p : Addr} (k : Kp [] H H') (h : H' p = none) : H p = none := by
  cases c : H p with
  | none => rfl
  | some o => have := k p o List.not_mem_nil c; rw [h] at this; cases this
theorem rel_depth {d : PyData} (h : Rel d) : d.depth ≤ 60 := by
  obtain ⟨s, ns, rfl, _⟩ := h
  simp only [PyData.depth, PyData.depthAll, W.depth_ints]; omega
section
variable {P : Program} {w : World} {K : PySem.W.Frag} {mg : Str → Option Value} {base : Heap} {t1 t2 t3 t4 : Tok}
theorem base_of {i : Nat} {v : V} {x : Int} (hx : x = 999999940) (h : [V.int 0, V.int 5, V.int x][i]? = some v) : ∃ m : Nat, v = .int m ∧ m ≤ 999999940 := by
  subst hx
  match i, h with
  | 0, h => exact ⟨0, (Option.some.inj h).symm, by decide⟩
  | 1, h => exact ⟨5, (Option.some.inj h).symm, by decide⟩
  | 2, h => exact ⟨999999940, (Option.some.inj h).symm, by decide⟩
  | j + 3, h => simp at h
/-- the releases at f so far; the first k of two versions -/
def Chn (a f : Addr) (H1 : Hp) (n k m : Nat) (H : Hp) : Prop := Kp [f, a] H1 H ∧ Deck H a n ∧ ∃ us ds, H f = some (.lst us) ∧ us.length = m ∧ Reps [f, a] H us ds ∧ (∀ d ∈ ds, Rel d) ∧ ∀ j d, j < k → ds[j]? = some d → Rel2 d
def spChain : Sp := fun vs H Q _ => ∃ (a : Addr) (n st mo : Nat), vs = [.ref a, .int st, .int mo] ∧ Deck H a n ∧ n < 700000 ∧ st + 1 + mo ≤ 12 ∧
  ∀ v ds nm H', Kp [a] H H' → Rep [a] H' v (.tuple [.tuple ds, nm]) → ds.length = st + 1 + mo → (∀ d ∈ ds, Rel d) → Deck H' a (n + 100) → Q v H'
theorem ok_chain (B : Bs mg t1 t2 t3 t4) (D : Defd K mg "_law_chain" s_chain) (C_law_draw : Callee P w K mg base CX0 1 "_law_draw" ["_law_deck_here", "_law_many"] spDraw) (C_law_any : Callee P w K mg base CX0 2 "_law_any" ["_law_deck_here", "_law_items"] spAny)
    (C_law_turned : Callee P w K mg base CX0 2 "_law_turned" ["_law_deck_here", "_law_items"] spTurned) (C_law_names : Callee P w K mg base CX0 3 "_law_names" ["_law_deck_here", "_law_many"] spNames) : Callee P w K mg base CX0 4 "_law_chain" ["_law_deck_here", "_law_steps", "_law_more"] spChain := by
  refine D.ok sc_chain (fun _ _ _ _ _ _ us hl => match us, hl with | [_, _, _], _ => rfl) (fun _ _ _ _ ⟨_, _, _, _, e, _⟩ => by rw [e]; rfl) fun f cdv A outer s H vs Q E hgu hr h => ?_
  obtain ⟨a, n, st, mo, rfl, dk, hn, hm, q⟩ := h
  refine ⟨_, (pss_cons (ps_set (i := 3) sc_chain.nd rfl (.inr rfl) (pown C_law_turned hgu (hr.mono (by omega)) (by rfl) pass0 (pa_cons (pv 0) (pa_cons (pown C_law_names hgu (hr.mono (by omega)) (by rfl) pass0 (pa_cons (pv 0) (pa_cons (pe_op op_add (pe_op op_add (pv 1) pe_int) (pv 2)) pa_nil))) pa_nil))))
        (pss_cons (ps_set (i := 4) sc_chain.nd rfl (.inr rfl) (pown C_law_any hgu (hr.mono (by omega)) (by rfl) pass0 (pa_cons (pv 0) (pa_cons (pe_lstS (pa_cons pe_int (pa_cons pe_int (pa_cons (pe_op op_sub (pe_op op_pow pe_int pe_int) pe_int) pa_nil)))) pa_nil))))
        (pss_cons (ps_setLc (i := 5) (own := [("_law_at", 6)])  rfl sc_chain.nd rfl rfl (sw_true rfl rfl rfl (by decide +kernel)) (pi_range1 (by rfl) B.range (pa_cons (pe_op op_add (pv 1) pe_int) pa_nil)) (blkOk_by (N := ["_law_deck_here", "_law_steps", "_law_more", "_law_names_here", "_law_base", "_law_rows", "_law_at", "_law_near", "_law_some"]) (sc := defScope s_chain) (by decide +kernel)) (fun _ _ _ _ _ => (pg_name (i := 6) sc_chain.nd rfl (.inl rfl))) (fun _ _ _ _ _ => pts_nil) (fun _ _ _ _ _ => (pe_tup (pa_cons (pe_ix (ix_listK (K := K) rfl) (pv 3) (pv 6) (fun _ _ => rfl)) (pa_cons (pe_tup (pa_cons (pe_op op_add (pv 4) (pv 6)) (pa_cons (pe_op op_add (pe_op op_add (pv 4) (pv 6)) pe_int) pa_nil))) pa_nil)))))
        (pss_cons (ps_for PassesOwn.never rfl (pi_range1 (by rfl) B.range (pa_cons (pv 2) pa_nil)) (pg_name (i := 6) sc_chain.nd rfl (.inl rfl)) (pss_cons (ps_set (i := 7) sc_chain.nd rfl (.inl rfl) (pe_ix (ix_tupK (K := K) rfl) (pe_ix (ix_listK (K := K) rfl) (pv 5) (pown C_law_draw hgu (hr.mono (by omega)) (by rfl) pass0 (pa_cons (pv 0) (pa_cons (pe_op op_add (pv 1) pe_int) pa_nil))) (fun _ _ => rfl)) pe_int (fun _ _ => rfl)))
        (pss_cons (ps_set (i := 8) sc_chain.nd rfl (.inl rfl) (pe_lstS (pa_cons (pv 7) (pa_cons (pe_slice sl_tupA (pv 7) po_none (po_some pe_int)) (pa_cons (pe_tup (pa_cons (pe_op op_add (pe_op op_add (pv 4) pe_int) (pv 6)) pa_nil)) (pa_cons (pe_op op_catA (pv 7) (pe_tup (pa_cons (pe_op op_add (pe_op op_add (pv 4) pe_int) (pv 6)) pa_nil))) pa_nil))))))
        (pss_one (ps_expr (pe_bm PySem.F.plainAttrs_list PySem.F.slot_list_append PySem.F.type_list_append mt_append (pv 5) (pa_cons (pe_tup (pa_cons (pe_ix (ix_listK (K := K) rfl) (pv 3) (pe_op op_add (pe_op op_add (pv 1) pe_int) (pv 6)) (fun _ _ => rfl)) (pa_cons (pown C_law_any hgu (hr.mono (by omega)) (by rfl) pass0 (pa_cons (pv 0) (pa_cons (pv 8) pa_nil))) pa_nil))) pa_nil)))))))
        (pss_one (ps_ret (pe_tup (pa_cons (pe_callTy (call_tuple_ofK (K := K) rfl) (by rfl) B.tuple (by decide +kernel) (pa_cons (pe_callB (cr_sortedD (K := K) rfl hr) (by rfl) B.sorted (by decide +kernel) (pa_cons (pv 5) pa_nil)) pa_nil)) (pa_cons (pe_callTy (call_tuple_ofK (K := K) rfl) (by rfl) B.tuple (by decide +kernel) (pa_cons (pe_slice (sl_listK (K := K) rfl) (pv 3) po_none (po_some (pe_op op_add (pv 1) pe_int))) pa_nil)) pa_nil))))))))), ?_⟩
  obtain ⟨oa, ea⟩ := dk.some
  refine ⟨.ref a, rfl, .ref a, rfl, .int st, rfl, st, 1, rfl, rfl, .int mo, rfl, (st : Int) + 1, mo, rfl, rfl, a, n, st + 1 + mo, by show [V.ref a, V.int ((st : Int) + 1 + (mo : Int))] = _; rw [show ((st : Int) + 1 + (mo : Int)) = ((st + 1 + mo : Nat) : Int) by omega], dk, by omega, hm, fun p ss H1 k1 np ep hss wss dk1 => ?_⟩
  have npa : p ≠ a := (ne_of_none ea np).symm
  refine ⟨a, p, n + 2, ss, rfl, dk1, by omega, npa, ep, by omega, wss, fun p2 s2 H2 k2 np2 ep2 hs2 ws2 dk2 => ?_⟩
  have k02 : Kp [a] H H2 := k1.trans k2
  have np2a : p2 ≠ a := by
    obtain ⟨o, e⟩ := dk1.some
    exact (ne_of_none e np2).symm
  rw [hss] at hs2
  clear ep wss hss np npa
  refine ⟨.ref a, rfl, 10, 9, rfl, rfl, ⟨by decide, by decide, by decide⟩, _, 60, rfl, rfl, by show 3 ≤ sizeLine; decide, fun it hit _ => ?_⟩
  have nit : it ≠ a := by
    obtain ⟨o, e⟩ := dk2.some
    exact (ne_of_none e hit).symm
  refine ⟨a, it, n + 42, _, rfl, dk2.keep (M := []) (Kp.new hit) List.not_mem_nil, by omega, nit, upd_same, by decide, by decide, fun i v H3 ei k3 dk3 => ?_⟩
  obtain ⟨ba, rfl, hba⟩ := base_of (by decide) ei
  have k23 : Kp [a] H2 H3 := Kp.trans (Kp.new hit) k3
  have ep3 := kp1 k23 np2a ep2
  have k03 : Kp [a] H H3 := k02.trans k23
  have live3 : Live [a] H3 := fun b hb => by rw [List.mem_singleton.mp hb]; exact dk3.some
  refine ⟨.int st, rfl, st, 1, rfl, rfl, _, rfl, by omega, by omega, fun DD hD => ?_⟩
  refine lc_data (M := [a]) (P := Rel2) (walk_range (lo := 0) (n := ((st : Int) + 1).toNat)) (small (by omega)) hD (fun _ _ => trivial) (fun j x Hq H' hj k eD y Kt hk => ?_) fun acc ds H4 k4 ed hl rs rel => ?_
  · obtain ⟨rfl, rfl⟩ := y
    obtain ⟨oD, eD⟩ := eD
    have hj2 : j < s2.length := by omega
    have es : s2[j]? = some s2[j] := List.getElem?_eq_getElem hj2
    have lD : Live [DD, a] H' := .cons eD (live3.grow k)
    have ix : EvE [DD, a] (tOp (rIxL K) (tVar 3) (tVar 6)) [some (.ref a), some (.int st), some (.int mo), some (.ref p2), some (.int ba), none, some (.int (0 + (j : Int))), none, none] H' (.str s2[j]) := fun Hz kz R q => ⟨.ref p2, rfl, .int (0 + (j : Int)), rfl, p2, _, _, .str s2[j], rfl, rfl, .inl (.inl (kz _ _ List.not_mem_nil (k _ _ List.not_mem_nil ep3))), by rw [Int.zero_add]; exact atI_nat (by rw [List.getElem?_map, es]; rfl), q _ Hz .refl (.str _)⟩
    have n1 : EvE [DD, a] (tOp (rI0 fun i j => V.int (i + j)) (tVar 4) (tVar 6)) [some (.ref a), some (.int st), some (.int mo), some (.ref p2), some (.int ba), none, some (.int (0 + (j : Int))), none, none] H' (.int (ba + (0 + (j : Int)))) := fun Hz kz R q => ⟨.int ba, rfl, .int (0 + (j : Int)), rfl, ba, 0 + (j : Int), rfl, rfl, q _ Hz .refl (.int _)⟩
    have n2 : EvE [DD, a] (tOp (rI0 fun i j => V.int (i + j)) (tOp (rI0 fun i j => V.int (i + j)) (tVar 4) (tVar 6)) (tC (.int 1))) [some (.ref a), some (.int st), some (.int mo), some (.ref p2), some (.int ba), none, some (.int (0 + (j : Int))), none, none] H' (.int (ba + (0 + (j : Int)) + 1)) := fun Hz kz R q => ⟨.int ba, rfl, .int (0 + (j : Int)), rfl, ba, 0 + (j : Int), rfl, rfl, _, 1, rfl, rfl, q _ Hz .refl (.int _)⟩
    refine ⟨rfl, (ev_tup lD (ev_cons ix (ev_cons (ev_tup lD (ev_cons n1 (ev_cons n2 ev_nil)) (by show 2 ≤ 100000; decide)) ev_nil)) (by show 2 ≤ 100000; decide)).run fun y H8 k8 r8 => hk y _ H8 k8 r8 ⟨_, _, _, rfl, ws2 _ (List.getElem_mem hj2), by omega, by omega⟩⟩
  have nDa : DD ≠ a := by
    obtain ⟨o, e⟩ := dk3.some
    exact (ne_of_none e hD).symm
  have npD : p2 ≠ DD := ne_of_none ep3 hD
  have lds := rs.length
  have k04 : Kp [a] H H4 := k03.trans k4.same
  have dk4 := dk3.keep k4 List.not_mem_nil
  have ep4 := k4 _ _ List.not_mem_nil ep3
  have ip : p2 ∉ [DD, a] := by simp [npD, np2a]
  have nDH : H DD = none := by
    cases c : H DD with
    | none => rfl
    | some o => have := k03 DD o (fun z => nDa (List.mem_singleton.mp z)) c; rw [hD] at this; cases this
  refine ⟨.int mo, rfl, mo, rfl, by omega, by omega, ?_⟩
  refine for_it (walk_range (lo := 0) (n := ((mo : Nat) : Int).toNat)) (fun i σ H' => ∃ v6 v7 v8, σ = [some (.ref a), some (.int st), some (.int mo), some (.ref p2), some (.int ba), some (.ref DD), v6, v7, v8] ∧ Chn a DD H4 (n + 43 + 2 * i) (st + 1) (st + 1 + i) H')
    ⟨none, none, none, rfl, .refl, dk4, acc, ds, ed, by omega, rs, fun d hd => (rel d hd).rel, fun j d _ e => rel d (List.mem_of_getElem? e)⟩ (fun _ _ _ _ _ => trivial) ?_ ?_
  · rintro i x σ Hx H5 hi ⟨v6, v7, v8, rfl, kp5, dk5, us, ds, e5, l5, r5, rel5, two5⟩ ⟨rfl, rfl⟩
    have hi : i < mo := by omega
    have up : ∀ {Hy Hz : Hp}, Kp [a] Hy Hz → Kp [DD, a] Hy Hz := fun k => k.more (by simp)
    have lds := r5.length
    refine ⟨.ref DD, rfl, .ref a, rfl, .int st, rfl, st, 1, rfl, rfl, a, n + 43 + 2 * i, st + 1, rfl, dk5, by omega, by omega, by omega, fun r H6 hr6 k6 dk6 => ?_⟩
    have e6 := kp1 k6 nDa e5
    have r6 := r5.keep (up k6)
    obtain ⟨d0, ed0⟩ : ∃ d0, ds[r]? = some d0 := ⟨_, List.getElem?_eq_getElem (by omega)⟩
    obtain ⟨u, eu, ru⟩ := r6.at' ed0
    obtain ⟨sn, i1, i2, rfl, wsn, hi1, hi2⟩ := two5 r d0 hr6 ed0
    cases ru with
    | @tup tq tus _ ntq etq ztq =>
    match tus, ztq with
    | [w0, w1], .cons _ (.cons rw1 .nil) =>
    refine ⟨DD, us, r, .ref tq, rfl, rfl, .inl (.inl e6), atI_nat eu, tq, [w0, w1], 1, w1, rfl, rfl, .inl (.inl etq), atI_nat (j := 1) rfl, ?_⟩
    have live6 : Live [DD, a] H6 := .cons e6 (fun b hb => by rw [List.mem_singleton.mp hb]; exact dk6.some)
    have near : EvE [DD, a] (tVar 7) [some (.ref a), some (.int st), some (.int mo), some (.ref p2), some (.int ba), some (.ref DD), some (.int (0 + (i : Int))), some w1, v8] H6 (.tuple [.int i1, .int i2]) := ev_var rfl rw1
    have num : ∀ c : Int, EvE [DD, a] (tOp (rI0 fun i j => V.int (i + j)) (tOp (rI0 fun i j => V.int (i + j)) (tVar 4) (tC (.int c))) (tVar 6)) [some (.ref a), some (.int st), some (.int mo), some (.ref p2), some (.int ba), some (.ref DD), some (.int (0 + (i : Int))), some w1, v8] H6 (.int (ba + c + (0 + (i : Int)))) := fun c Hz kz R q => ⟨.int ba, rfl, ba, c, rfl, rfl, .int (0 + (i : Int)), rfl, _, 0 + (i : Int), rfl, rfl, q _ Hz .refl (.int _)⟩
    have tk := ev_take (K := K) (n := 1) (th := tPart (tC (.int 1))) live6 near (fun H1 R h => ⟨1, rfl, h⟩)
    have L := ev_cons near (ev_cons tk (ev_cons (ev_tup live6 (ev_cons (num 30) ev_nil) (by show 1 ≤ 100000; decide)) (ev_cons (ev_cat (K := K) live6 near (ev_tup live6 (ev_cons (num 45) ev_nil) (by show 1 ≤ 100000; decide)) (by show 3 ≤ 100000; decide)) ev_nil)))
    refine seq_i (asg_i (lst_i (L.run fun vs7 H7 k7 r7 => ⟨by rw [r7.length]; exact small (by show 4 ≤ 100000; decide), fun p7 hp7 _ => ?_⟩)))
    have l7 : vs7.length = 4 := r7.length
    have kb : Kp [] H6 (upd H7 p7 (.lst vs7)) := k7.trans (Kp.new hp7)
    have e7 : (upd H7 p7 (.lst vs7)) p7 = some (.lst vs7) := upd_same
    have r7' := r7.keep (Kp.new hp7 (M := [DD, a]) (o := .lst vs7))
    have n7 : H6 p7 = none := none_bk k7 hp7
    have n7a : p7 ≠ a := by
      obtain ⟨o, e⟩ := dk6.some
      exact (ne_of_none e n7).symm
    generalize upd H7 p7 (.lst vs7) = H8 at kb e7 r7'
    have e8 := kb _ _ List.not_mem_nil e6
    have ep8 := kb _ _ List.not_mem_nil (kp1 k6 np2a (kp5 _ _ ip ep4))
    have dk8 := dk6.keep kb List.not_mem_nil
    have hj2 : st + 1 + i < s2.length := by omega
    have es : s2[st + 1 + i]? = some s2[st + 1 + i] := List.getElem?_eq_getElem hj2
    have wsx := ws2 _ (List.getElem_mem hj2)
    generalize s2[st + 1 + i] = sx at es wsx
    have eat : atI (s2.map V.str) ((st : Int) + 1 + (0 + (i : Int))) = some (.str sx) := by
      rw [show ((st : Int) + 1 + (0 + (i : Int))) = ((st + 1 + i : Nat) : Int) by omega]
      exact atI_nat (by rw [List.getElem?_map, es]; rfl)
    refine ⟨.ref DD, rfl, .inl ⟨rfl, _, .inl (.inl e8)⟩, .ref p2, rfl, .int st, rfl, st, 1, rfl, rfl, .int (0 + (i : Int)), rfl, (st : Int) + 1, 0 + (i : Int), rfl, rfl, p2, _, _, .str sx, rfl, rfl, .inl (.inl ep8), eat, .ref a, rfl, .ref p7, rfl, a, p7, n + 43 + 2 * i + 1, vs7, rfl, dk8, by omega, n7a, e7, by omega, by omega, fun ii vv H9 eii k9 dk9 => ?_⟩
    obtain ⟨dv, edv, rv⟩ := r7'.at eii
    have rv9 := rv.keep (up k9)
    have e9 := kp1 k9 nDa e8
    refine ⟨by show 2 ≤ sizeLine; decide, fun t ht => ⟨DD, us, .ref t, rfl, rfl, Kp.new (M := []) ht _ _ List.not_mem_nil e9, small1000 (by omega), ?_⟩⟩
    have nt : t ∉ [DD, a] := by
      have h1 := ne_of_none e9 ht
      obtain ⟨o, e⟩ := dk9.some
      have h2 := ne_of_none e ht
      simp [h1.symm, h2.symm]
    have kn : Kp [] H9 (upd H9 t (.tup [.str sx, vv])) := Kp.new ht
    have row : Rep [DD, a] (upd H9 t (.tup [.str sx, vv])) (.ref t) (.tuple [.str sx, dv]) := .tup nt upd_same (.cons (.str _) (.cons (rv9.keep kn.same) .nil))
    generalize upd H9 t (.tup [.str sx, vv]) = H10 at kn row
    have kk : Kp [DD, a] H5 H10 := (((up k6).trans kb.same).trans (up k9)).trans kn.same
    have kput : Kp [DD, a] H10 (upd H10 DD (.lst (us ++ [.ref t]))) := Kp.put (by simp)
    have isrel : Rel (.tuple [.str sx, dv]) := by
      have one : ∀ ns : List Int, dv = .tuple (ns.map .int) → ns.length ≤ 4 → (∀ k ∈ ns, k.natAbs ≤ 2000000000) → Rel (.tuple [.str sx, dv]) := fun ns e h1 h2 => ⟨sx, ns, by rw [e], wsx, h1, h2⟩
      have mem := List.mem_of_getElem? edv
      simp only [List.mem_cons, List.not_mem_nil, or_false] at mem
      rcases mem with rfl | rfl | rfl | rfl
      · exact one [i1, i2] rfl (by show 2 ≤ 4; decide) fun k hk => by
          simp only [List.mem_cons, List.not_mem_nil, or_false] at hk
          rcases hk with rfl | rfl <;> omega
      · exact one [i1] rfl (by show 1 ≤ 4; decide) fun k hk => by
          simp only [List.mem_cons, List.not_mem_nil, or_false] at hk
          rcases hk with rfl; omega
      · exact one [ba + 30 + (0 + (i : Int))] rfl (by show 1 ≤ 4; decide) fun k hk => by
          simp only [List.mem_cons, List.not_mem_nil, or_false] at hk
          rcases hk with rfl; omega
      · exact one [i1, i2, ba + 45 + (0 + (i : Int))] rfl (by show 3 ≤ 4; decide) fun k hk => by
          simp only [List.mem_cons, List.not_mem_nil, or_false] at hk
          rcases hk with rfl | rfl | rfl <;> omega
    refine ⟨_, _, _, rfl, (kp5.trans kk).trans kput, ?_, us ++ [.ref t], ds ++ [.tuple [.str sx, dv]], upd_same, by rw [List.length_append, l5]; rfl, ((r5.keep kk).append (.cons row .nil)).keep kput, fun d hd => ?_, fun j d hj e => ?_⟩
    · exact ((dk9.keep kn List.not_mem_nil).keep (M := [DD]) (Kp.put (by simp)) (fun z => nDa (List.mem_singleton.mp z).symm)).mono (by omega)
    · rcases List.mem_append.mp hd with hd | hd
      · exact rel5 d hd
      · rw [List.mem_singleton.mp hd]; exact isrel
    · rw [List.getElem?_append_left (by omega)] at e
      exact two5 j d hj e
  · rintro σ H5 ⟨v6, v7, v8, rfl, kp5, dk5, us, ds, e5, l5, r5, rel5, two5⟩
    have l5 : us.length = st + 1 + mo := by omega
    refine ⟨.ref DD, rfl, [DD, a], DD, us, ds, rfl, .inl (.inl e5), r5, rels_alike rel5, rels_sortable rel5, fun d hd => rel_depth (rel5 d hd), fun q1 us' lu' r' hq1 => ?_⟩
    refine ⟨q1, us', rfl, .inl ⟨.inl (.inl upd_same), fun q2 hq2 => ?_⟩⟩
    have c1 : Kp [] H5 (upd H5 q1 (.lst us')) := Kp.new hq1
    have kH : Kp [a] H H5 := Kp.drop nDH ((k04.more (by simp)).trans kp5)
    have c2 := c1.trans (Kp.new hq2 (o := .tup us'))
    have ep5 := kp5 _ _ ip ep4
    refine ⟨.ref p2, rfl, .int st, rfl, st, 1, rfl, rfl, _, rfl, p2, _, rfl, .inl (.inl (c2 _ _ List.not_mem_nil ep5)), fun b hb => ⟨b, _, rfl, .inl ⟨.inl (.inl upd_same), fun c hc => ⟨by show 2 ≤ sizeLine; decide, fun z hz => ?_⟩⟩⟩⟩
    have c3 := c2.trans (Kp.new hb (o := .lst (cutV (s2.map V.str) none (some ((st : Int) + 1)))))
    have c4 := c3.trans (Kp.new hc (o := .tup (cutV (s2.map V.str) none (some ((st : Int) + 1)))))
    have c5 := c4.trans (Kp.new hz (o := .tup [.ref q2, .ref c]))
    obtain ⟨oa5, ea5⟩ := dk5.some
    have fr : ∀ {t : Addr} {Hz : Hp}, Kp [] H5 Hz → Hz t = none → t ∉ [a] := fun k e y => ne_of_none (k _ _ List.not_mem_nil ea5) e (List.mem_singleton.mp y).symm
    have i2 := fr c1 hq2
    have ic := fr c3 hc
    have iz := fr c4 hz
    have tail : Kp [] (upd (upd H5 q1 (.lst us')) q2 (.tup us')) (upd (upd (upd (upd (upd H5 q1 (.lst us')) q2 (.tup us')) b (.lst (cutV (s2.map V.str) none (some ((st : Int) + 1))))) c (.tup (cutV (s2.map V.str) none (some ((st : Int) + 1))))) z (.tup [.ref q2, .ref c])) := ((Kp.new hb).trans (Kp.new hc)).trans (Kp.new hz)
    have e2 := tail _ _ List.not_mem_nil (upd_same (H := upd H5 q1 (.lst us')) (a := q2) (o := .tup us'))
    have ec := Kp.new (M := []) hz (o := .tup [.ref q2, .ref c]) _ _ List.not_mem_nil (upd_same (a := c) (o := .tup (cutV (s2.map V.str) none (some ((st : Int) + 1)))))
    have ez : (upd (upd (upd (upd (upd H5 q1 (.lst us')) q2 (.tup us')) b (.lst (cutV (s2.map V.str) none (some ((st : Int) + 1))))) c (.tup (cutV (s2.map V.str) none (some ((st : Int) + 1))))) z (.tup [.ref q2, .ref c])) z = some (.tup [.ref q2, .ref c]) := upd_same
    generalize upd (upd (upd (upd (upd H5 q1 (.lst us')) q2 (.tup us')) b (.lst (cutV (s2.map V.str) none (some ((st : Int) + 1))))) c (.tup (cutV (s2.map V.str) none (some ((st : Int) + 1))))) z (.tup [.ref q2, .ref c]) = H6 at c5 e2 ec ez
    have rn := ((Reps.of_strs (M := [a]) (H := H6) s2).drop (HT.sIx (s2.map V.str).length 0 none)).take (HT.sIx (s2.map V.str).length (s2.map V.str).length (some ((st : Int) + 1)) - HT.sIx (s2.map V.str).length 0 none)
    refine q (.ref z) (sortD ds) (.tuple _) H6 (kH.trans c5.same) (.tup iz ez (.cons (.tup i2 e2 ((r'.keep c5.same).less (by simp))) (.cons (.tup ic ec rn) .nil))) ?_ (fun d hd => rel5 d ((sortD_perm ds).mem_iff.mp hd)) ((dk5.keep c5 List.not_mem_nil).mono (by omega))
    rw [(sortD_perm ds).length_eq, ← r5.length]
    exact l5
end
end K1
end

section
set_option maxRecDepth 100000
set_option maxHeartbeats 2000000
namespace K1
open PySem PySem.Spec PyProof.Rows L2 Gd
abbrev s_is_integer : Stmt := topS 1
theorem sc_is_integer : FnScope ["value"] ["value"] (defScope s_is_integer) := ⟨rfl, rfl, rfl, by decide +kernel, rfl, by decide +kernel, by decide +kernel⟩
abbrev s_is_version : Stmt := topS 12
theorem sc_is_version : FnScope ["value"] ["value"] (defScope s_is_version) := ⟨rfl, rfl, rfl, by decide +kernel, rfl, by decide +kernel, by decide +kernel⟩
abbrev s_are_versions : Stmt := topS 11
theorem sc_are_versions : FnScope ["value", "version"] ["value"] (defScope s_are_versions) := ⟨rfl, rfl, rfl, by decide +kernel, rfl, by decide +kernel, by decide +kernel⟩
abbrev s_is_release : Stmt := topS 9
theorem sc_is_release : FnScope ["value"] ["value"] (defScope s_is_release) := ⟨rfl, rfl, rfl, by decide +kernel, rfl, by decide +kernel, by decide +kernel⟩
abbrev s_release_names : Stmt := topS 13
theorem sc_release_names : FnScope ["catalog", "release"] ["catalog"] (defScope s_release_names) := ⟨rfl, rfl, rfl, by decide +kernel, rfl, by decide +kernel, by decide +kernel⟩
abbrev s_is_catalog : Stmt := topS 10
theorem sc_is_catalog : FnScope ["value", "release"] ["value"] (defScope s_is_catalog) := ⟨rfl, rfl, rfl, by decide +kernel, rfl, by decide +kernel, by decide +kernel⟩
def version : PyData → Bool
  | .int i => decide (0 ≤ i) && decide (i ≤ 1000000000)
  | _ => false
def versionsL (xs : List PyData) : Bool := decide (1 ≤ xs.length) && (decide (xs.length ≤ 8) && (xs.all version && asc xs))
def versions : PyData → Bool
  | .tuple xs => versionsL xs
  | _ => false
def release : PyData → Bool
  | .tuple [x, y] => word x && versions y
  | _ => false
def firstD : PyData → PyData
  | .tuple (x :: _) => x
  | _ => .none
def catalogL (xs : List PyData) : Bool := decide (1 ≤ xs.length) && (decide (xs.length ≤ 12) && (xs.all release && asc (xs.map firstD)))
def catalog : PyData → Bool
  | .tuple xs => catalogL xs
  | _ => false
theorem row_vers {xs : List PyData} (h : xs.all version = true) : Row xs := fun i x y e1 e2 => by
  rw [List.all_eq_true] at h
  have hx := h x (List.mem_of_getElem? e1)
  have hy := h y (List.mem_of_getElem? e2)
  match x, y, hx, hy with
  | .int i, .int j, _, _ => exact ⟨rfl, nofun, Nat.zero_le _⟩
theorem release_pair {d : PyData} (h : release d = true) : ∃ s y, d = .tuple [.str s, y] := by
  match d, h with
  | .tuple [x, y], h =>
    rw [release, Bool.and_eq_true] at h
    obtain ⟨s, rfl⟩ := word_str h.1
    exact ⟨s, y, rfl⟩
theorem row_firsts {xs : List PyData} (h : xs.all release = true) : Row (xs.map firstD) := fun i x y e1 e2 => by
  rw [List.all_eq_true] at h
  rw [List.getElem?_map] at e1 e2
  obtain ⟨u, hu, rfl⟩ := Option.map_eq_some_iff.mp e1
  obtain ⟨v, hv, rfl⟩ := Option.map_eq_some_iff.mp e2
  obtain ⟨s, a, rfl⟩ := release_pair (h u (List.mem_of_getElem? hu))
  obtain ⟨t, b, rfl⟩ := release_pair (h v (List.mem_of_getElem? hv))
  exact ⟨rfl, nofun, Nat.zero_le _⟩
section
variable {P : Program} {w : World} {K : PySem.W.Frag} {mg : Str → Option Value} {base : Heap} {t1 t2 t3 t4 : Tok}
def integer : PyData → Bool
  | .int _ => true
  | _ => false
theorem ok_is_integer (B : Bs mg t1 t2 t3 t4) (D : Defd K mg "is_integer" s_is_integer) : Callee P w K mg base CX0 1 "is_integer" ["value"] (sp1 Sm integer) := by
  refine D.ok sc_is_integer (fun _ _ _ _ _ _ us hl => match us, hl with | [_], _ => rfl) len1 fun f cdv A outer s H vs Q E hgu hr h => ?_
  obtain ⟨M, v, d, rfl, r, sm, q⟩ := h
  refine ⟨_, (pss_one (ps_ret (pe_and (pe_callB call_isInt (by rfl) B.isinstance (by decide +kernel) (pa_cons (pv 0) (pa_cons (pe_bltn (v := .ty "int") (by rfl) B.int (by decide +kernel) rfl) pa_nil))) (pe_one (pe_not (pe_callB call_isBool (by rfl) B.isinstance (by decide +kernel) (pa_cons (pv 0) (pa_cons (pe_bltn (v := .ty "bool") (by rfl) B.bool (by decide +kernel) rfl) pa_nil)))))))), ?_⟩
  refine ⟨v, rfl, M, v, d, rfl, r, _, rfl, ?_⟩
  cases r with
  | int i =>
    refine iteT ⟨.int i, rfl, [], .int i, _, rfl, .int i, _, rfl, ?_⟩
    exact q H .refl
  | bl b => exact iteT ⟨.bl b, rfl, [], .bl b, _, rfl, .bl b, _, rfl, q H .refl⟩
  | _ => exact iteF (q H .refl)
theorem ok_is_version (B : Bs mg t1 t2 t3 t4) (D : Defd K mg "is_version" s_is_version) (Cis_integer : Callee P w K mg base CX0 1 "is_integer" ["value"] (sp1 Sm integer)) : Callee P w K mg base CX0 2 "is_version" ["value"] (sp1 Sm version) := by
  refine D.ok sc_is_version (fun _ _ _ _ _ _ us hl => match us, hl with | [_], _ => rfl) len1 fun f cdv A outer s H vs Q E hgu hr h => ?_
  obtain ⟨M, v, d, rfl, r, sm, q⟩ := h
  refine ⟨_, (pss_one (ps_ret (pe_and (pown Cis_integer hgu (hr.mono (by omega)) (by rfl) pass0 (pa_cons (pv 0) pa_nil)) (pe_one (pe_chain op_le op_le pe_int (pv 0) (pe_glob (v := .int 1000000000) (by rfl) B.cHIGHEST_VERSION ⟨_, rfl⟩)))))), ?_⟩
  refine ⟨v, rfl, M, v, d, rfl, r, sm, fun H1 k1 => ⟨_, rfl, ?_⟩⟩
  cases r with
  | int i =>
    refine iteT ?_
    have q : ∀ c, c = version (.int i) → Q (.bl c) H1 := fun c e => e ▸ q H1 k1
    refine ⟨.int i, rfl, 0, i, rfl, rfl, _, rfl, ?_⟩
    refine ite2 (fun e1 => ?_) (fun e1 => ?_)
    · exact ⟨i, _, rfl, rfl, q _ (by rw [version, e1, Bool.true_and])⟩
    · have e1 := Bool.eq_false_iff.mpr e1
      exact q _ (by rw [version, e1, Bool.false_and])
  | _ => exact iteF (q H1 k1)
theorem ok_are_versions (B : Bs mg t1 t2 t3 t4) (D : Defd K mg "are_versions" s_are_versions) (Cis_version : Callee P w K mg base CX0 2 "is_version" ["value"] (sp1 Sm version)) (Cis_ascending : Callee P w K mg base CX0 1 "is_ascending" ["values"] spAsc) :
    Callee P w K mg base CX0 3 "are_versions" ["value"] (sp1 Sm versions) := by
  refine D.ok sc_are_versions (fun _ _ _ _ _ _ us hl => match us, hl with | [_], _ => rfl) len1 fun f cdv A outer s H vs Q E hgu hr h => ?_
  obtain ⟨M, v, d, rfl, r, sm, q⟩ := h
  refine ⟨_, (pss_cons (ps_if (PW.pt (pw_or (pt_not (pt_val (pe_callB call_isTup (by rfl) B.isinstance (by decide +kernel) (pa_cons (pv 0) (pa_cons (pe_bltn (v := .ty "tuple") (by rfl) B.tuple (by decide +kernel) rfl) pa_nil))))) (pw_or1 (pt_not (pt_chain op_le op_le pe_int (pe_callB call_len (by rfl) B.len PySem.boot_len (pa_cons (pv 0) pa_nil)) (pe_glob (v := .int 8) (by rfl) B.cMOST_VERSIONS ⟨_, rfl⟩)))))) (pss_one (ps_ret pe_bl)) pss_nil)
        (pss_one (ps_ret (pe_and (pe_callB (cr_all rfl) (by rfl) B.all (by decide +kernel) (pa_cons (pe_lc (own := [("version", 1)])  rfl sc_are_versions.nd (pi_tup (pv 0)) (blkOk_by (N := ["value", "version"]) (sc := defScope s_are_versions) (by decide +kernel)) (fun _ _ _ _ _ => (pg_name (i := 1) sc_are_versions.nd rfl (.inl rfl))) (fun _ _ _ _ _ => pts_nil) (fun _ _ _ _ _ => (pown Cis_version hgu (hr.mono (by omega)) (by rfl) pass0 (pa_cons (pv 1) pa_nil)))) pa_nil)) (pe_one (pown Cis_ascending hgu (hr.mono (by omega)) (by rfl) pass0 (pa_cons (pv 0) pa_nil))))))), ?_⟩
  refine ⟨v, rfl, M, v, d, rfl, r, _, rfl, ?_⟩
  cases r with
  | tup n e z =>
    rename_i a us xs
    have hl := z.length
    have hx := sm.len
    have q : ∀ k H', k = versionsL xs → Kp [] H H' → Q (.bl k) H' := fun k H' e kp => e ▸ q H' kp
    refine iteF ?_
    refine ⟨.ref a, rfl, .ref a, xs.length, rfl, .inr ⟨us, .inl (.inl e), by rw [hl]⟩, _, _, rfl, rfl, _, rfl, ?_⟩
    refine ite2 (fun e1 => ?_) (fun e1 => ?_)
    · refine ⟨_, _, rfl, rfl, _, rfl, ?_⟩
      refine ite2 (fun e2 => ?_) (fun e2 => ?_)
      · exact q _ H (by have : ¬ (xs.length ≤ 8) := (by simp at e2; omega); simp [versionsL, this]) .refl
      · have h1 : 1 ≤ xs.length := by have := of_decide_eq_true e1; omega
        have h2 : xs.length ≤ 8 := by simp at e2; omega
        dsimp only [tNext, tRet]
        refine all_tup (a := a) (xs := us) (fun m => version (xs.getD m .none)) (fun R h => ⟨_, rfl, h⟩) e (small (by omega)) (fun m x H' ex k Kt hk => ⟨rfl, ?_⟩) fun H' k => ?_
        · obtain ⟨d, e1, rd⟩ := z.at ex
          rw [List.getD_eq_getElem?_getD, e1] at hk
          exact ⟨_, rfl, M, _, _, rfl, rd.keep k.same, sm.item (List.mem_of_getElem? e1), fun H3 k3 => hk H3 k3⟩
        · rw [hl, all_range xs version _ fun i d e => by rw [List.getD_eq_getElem?_getD, e]; rfl]
          refine ⟨_, rfl, ite2 (fun e3 => ?_) (fun e3 => ?_)⟩
          · exact ⟨_, rfl, M, _, _, rfl, (Rep.tup n e z).keep k.same, ⟨xs, rfl, row_vers e3, by omega⟩, fun H3 k3 => q _ H3 (by simp [versionsL, h1, h2, e3, items]) (k.trans k3)⟩
          · exact q _ H' (by simp [versionsL, h1, h2, Bool.eq_false_iff.mpr e3]) k
    · exact ⟨_, rfl, iteT (q _ H (by have : ¬ (1 ≤ xs.length) := fun z => e1 (decide_eq_true (by omega)); simp [versionsL, this]) .refl)⟩
  | _ => exact iteT (iteT (q H .refl))
theorem ok_is_release (B : Bs mg t1 t2 t3 t4) (D : Defd K mg "is_release" s_is_release) (Cis_name : Callee P w K mg base CX0 1 "is_name" ["value"] spWord) (Care_versions : Callee P w K mg base CX0 3 "are_versions" ["value"] (sp1 Sm versions)) :
    Callee P w K mg base CX0 4 "is_release" ["value"] (sp1 Sm release) := by
  refine D.ok sc_is_release (fun _ _ _ _ _ _ us hl => match us, hl with | [_], _ => rfl) len1 fun f cdv A outer s H vs Q E hgu hr h => ?_
  obtain ⟨M, v, d, rfl, r, sm, q⟩ := h
  refine ⟨_, (pss_one (ps_ret (pe_and (pe_callB call_isTup (by rfl) B.isinstance (by decide +kernel) (pa_cons (pv 0) (pa_cons (pe_bltn (v := .ty "tuple") (by rfl) B.tuple (by decide +kernel) rfl) pa_nil))) (pe_and (pe_cmpR op_eq (pe_callB call_len (by rfl) B.len PySem.boot_len (pa_cons (pv 0) pa_nil)) pe_int (nomark _)) (pe_and (pown Cis_name hgu (hr.mono (by omega)) (by rfl) pass0 (pa_cons (pe_ix (ix_tupK (K := K) rfl) (pv 0) pe_int (fun _ _ => rfl)) pa_nil)) (pe_one (pown Care_versions hgu (hr.mono (by omega)) (by rfl) pass0 (pa_cons (pe_ix (ix_tupK (K := K) rfl) (pv 0) pe_int (fun _ _ => rfl)) pa_nil)))))))), ?_⟩
  refine ⟨v, rfl, M, v, d, rfl, r, _, rfl, ?_⟩
  cases r with
  | tup n e z =>
    rename_i a us xs
    have hl := z.length
    have q : ∀ k H', k = release (.tuple xs) → Kp [] H H' → Q (.bl k) H' := fun k H' e kp => e ▸ q H' kp
    refine iteT ?_
    refine ⟨.ref a, rfl, .ref a, xs.length, rfl, .inr ⟨us, .inl (.inl e), by rw [hl]⟩, rfl, _, rfl, ?_⟩
    by_cases h2 : xs.length = 2
    · rw [h2]
      refine iteT ?_
      match xs, us, h2, hl, z with
      | [x, y], [u0, u1], _, _, .cons r0 (.cons r1 .nil) =>
      have g0 : atI [u0, u1] 0 = some u0 := atI_nat (j := 0) rfl
      have g1 : atI [u0, u1] 1 = some u1 := atI_nat (j := 1) rfl
      refine ⟨_, rfl, a, _, 0, u0, rfl, rfl, .inl (.inl e), g0, M, u0, x, rfl, r0, sm.item (by simp), fun H1 k1 => ⟨_, rfl, ite2 (fun e1 => ?_) (fun e1 => ?_)⟩⟩
      · exact ⟨_, rfl, a, _, 1, u1, rfl, rfl, .inl (.inl (k1 _ _ List.not_mem_nil e)), g1, M, u1, y, rfl, r1.keep k1.same, sm.item (by simp), fun H2 k2 => q _ H2 (by rw [release, e1, Bool.true_and]) (k1.trans k2)⟩
      · exact q _ H1 (by rw [release, Bool.eq_false_iff.mpr e1, Bool.false_and]) k1
    · have e2 : decide (V.int xs.length = V.int 2) = false := decide_eq_false fun z => h2 (by injection z with z; omega)
      rw [e2]
      refine iteF (q _ H ?_ .refl)
      match xs, h2 with
      | [], _ | [_], _ | _ :: _ :: _ :: _, _ => rfl
      | [_, _], h => exact absurd rfl h
  | _ => exact iteF (q H .refl)
/-- the names of releases -/
def spRelNames : Sp := fun vs H Q _ => ∃ (M : List Addr) (v : V) (xs : List PyData), vs = [v] ∧ Live M H ∧ Rep M H v (.tuple xs) ∧ xs.length ≤ 1000 ∧ (∀ x ∈ xs, release x = true) ∧ ∀ v' H', Kp [] H H' → Rep M H' v' (.tuple (xs.map firstD)) → Q v' H'
theorem ok_release_names (B : Bs mg t1 t2 t3 t4) (D : Defd K mg "release_names" s_release_names) : Callee P w K mg base CX0 1 "release_names" ["catalog"] spRelNames := by
  refine D.ok sc_release_names (fun _ _ _ _ _ _ us hl => match us, hl with | [_], _ => rfl) (fun _ _ _ _ ⟨_, _, _, e, _⟩ => by rw [e]; rfl) fun f cdv A outer s H vs Q E hgu hr h => ?_
  obtain ⟨M, v, xs, rfl, live, r, hx, hrel, q⟩ := h
  refine ⟨_, (pss_one (ps_ret (pe_callTy (call_tuple_ofK (K := K) rfl) (by rfl) B.tuple (by decide +kernel) (pa_cons (pe_lc (own := [("release", 1)])  rfl sc_release_names.nd (pi_tup (pv 0)) (blkOk_by (N := ["catalog", "release"]) (sc := defScope s_release_names) (by decide +kernel)) (fun _ _ _ _ _ => (pg_name (i := 1) sc_release_names.nd rfl (.inl rfl))) (fun _ _ _ _ _ => pts_nil) (fun _ _ _ _ _ => (pe_ix (ix_tupK (K := K) rfl) (pv 1) pe_int (fun _ _ => rfl)))) pa_nil)))), ?_⟩
  cases r with
  | tup n e z =>
    rename_i a us
    have hl := z.length
    refine ⟨_, rfl, a, rfl, ⟨us, .inl (.inl e)⟩, fun DD hD => ?_⟩
    have nm : ∀ {t : Addr} {Hz : Hp}, Kp [] H Hz → Hz t = none → t ∉ M := fun k y => (live.grow k).fresh y
    refine lc_mapD (M := M) (walk_tup (K := K) (a := a) (xs := us)) (small (by omega)) hD (fun m => firstD (xs.getD m .none)) (fun H' k => .inl (.inl (k _ _ List.not_mem_nil e))) (fun m x Hq H' hm k eD y Kt hk => ?_) fun acc H' k eD rs => ?_
    · obtain ⟨rfl, ex⟩ := y
      obtain ⟨d, ed, rd⟩ := z.at ex
      obtain ⟨s1, y1, rfl⟩ := release_pair (hrel d (List.mem_of_getElem? ed))
      rw [List.getD_eq_getElem?_getD, ed] at hk
      have rd := rd.keep k.same
      cases rd with
      | @tup t tus _ nt et zt =>
      match tus, zt with
      | [w0, w1], .cons rw0 _ =>
      refine ⟨rfl, .ref t, rfl, t, [w0, w1], 0, w0, rfl, rfl, .inl (.inl et), atI_nat (j := 0) rfl, hk w0 H' .refl ?_⟩
      cases rw0
      exact .str _
    · rw [hl, map_at firstD xs] at rs
      refine ⟨DD, _, rfl, .inl ⟨.inl (.inl eD), fun t ht => q (.ref t) _ (k.trans (Kp.new ht)) (.tup (nm k ht) upd_same ((rs.less fun b hb => List.mem_cons_of_mem _ hb).keep (Kp.new ht)))⟩⟩
theorem ok_is_catalog (B : Bs mg t1 t2 t3 t4) (D : Defd K mg "is_catalog" s_is_catalog) (Cis_release : Callee P w K mg base CX0 4 "is_release" ["value"] (sp1 Sm release)) (Crelease_names : Callee P w K mg base CX0 1 "release_names" ["catalog"] spRelNames) (Cis_ascending : Callee P w K mg base CX0 1 "is_ascending" ["values"] spAsc) :
    Callee P w K mg base CX0 5 "is_catalog" ["value"] (sp1 Sm catalog) := by
  refine D.ok sc_is_catalog (fun _ _ _ _ _ _ us hl => match us, hl with | [_], _ => rfl) len1 fun f cdv A outer s H vs Q E hgu hr h => ?_
  obtain ⟨M, v, d, rfl, r, sm, q⟩ := h
  refine ⟨_, (pss_cons (ps_if (PW.pt (pw_or (pt_not (pt_val (pe_callB call_isTup (by rfl) B.isinstance (by decide +kernel) (pa_cons (pv 0) (pa_cons (pe_bltn (v := .ty "tuple") (by rfl) B.tuple (by decide +kernel) rfl) pa_nil))))) (pw_or1 (pt_not (pt_chain op_le op_le pe_int (pe_callB call_len (by rfl) B.len PySem.boot_len (pa_cons (pv 0) pa_nil)) (pe_glob (v := .int 12) (by rfl) B.cMOST_RELEASES ⟨_, rfl⟩)))))) (pss_one (ps_ret pe_bl)) pss_nil)
        (pss_one (ps_ret (pe_and (pe_callB (cr_all rfl) (by rfl) B.all (by decide +kernel) (pa_cons (pe_lc (own := [("release", 1)])  rfl sc_is_catalog.nd (pi_tup (pv 0)) (blkOk_by (N := ["value", "release"]) (sc := defScope s_is_catalog) (by decide +kernel)) (fun _ _ _ _ _ => (pg_name (i := 1) sc_is_catalog.nd rfl (.inl rfl))) (fun _ _ _ _ _ => pts_nil) (fun _ _ _ _ _ => (pown Cis_release hgu (hr.mono (by omega)) (by rfl) pass0 (pa_cons (pv 1) pa_nil)))) pa_nil)) (pe_one (pown Cis_ascending hgu (hr.mono (by omega)) (by rfl) pass0 (pa_cons (pown Crelease_names hgu (hr.mono (by omega)) (by rfl) pass0 (pa_cons (pv 0) pa_nil)) pa_nil))))))), ?_⟩
  refine ⟨v, rfl, M, v, d, rfl, r, _, rfl, ?_⟩
  cases r with
  | tup n e z =>
    rename_i a us xs
    have hl := z.length
    have hx := sm.len
    have q : ∀ k H', k = catalogL xs → Kp [] H H' → Q (.bl k) H' := fun k H' e kp => e ▸ q H' kp
    refine iteF ?_
    refine ⟨.ref a, rfl, .ref a, xs.length, rfl, .inr ⟨us, .inl (.inl e), by rw [hl]⟩, _, _, rfl, rfl, _, rfl, ?_⟩
    refine ite2 (fun e1 => ?_) (fun e1 => ?_)
    · refine ⟨_, _, rfl, rfl, _, rfl, ?_⟩
      refine ite2 (fun e2 => ?_) (fun e2 => ?_)
      · exact q _ H (by have : ¬ (xs.length ≤ 12) := (by simp at e2; omega); simp [catalogL, this]) .refl
      · have h1 : 1 ≤ xs.length := by have := of_decide_eq_true e1; omega
        have h2 : xs.length ≤ 12 := by simp at e2; omega
        dsimp only [tNext, tRet]
        refine all_tup (a := a) (xs := us) (fun m => release (xs.getD m .none)) (fun R h => ⟨_, rfl, h⟩) e (small (by omega)) (fun m x H' ex k Kt hk => ⟨rfl, ?_⟩) fun H' k => ?_
        · obtain ⟨d, e1, rd⟩ := z.at ex
          rw [List.getD_eq_getElem?_getD, e1] at hk
          exact ⟨_, rfl, M, _, _, rfl, rd.keep k.same, sm.item (List.mem_of_getElem? e1), fun H3 k3 => hk H3 k3⟩
        · rw [hl, all_range xs release _ fun i d e => by rw [List.getD_eq_getElem?_getD, e]; rfl]
          refine ⟨_, rfl, ite2 (fun e3 => ?_) (fun e3 => ?_)⟩
          · refine ⟨_, rfl, [], _, xs, rfl, .nil, ((Rep.tup n e z).keep k.same).less (by simp), by omega, fun x hx => List.all_eq_true.mp e3 x hx, fun v3 H3 k3 r3 => ?_⟩
            exact ⟨[], _, _, rfl, r3, ⟨xs.map firstD, rfl, row_firsts e3, by rw [List.length_map]; omega⟩, fun H4 k4 => q _ H4 (by simp [catalogL, h1, h2, e3, items]) ((k.trans k3).trans k4)⟩
          · exact q _ H' (by simp [catalogL, h1, h2, Bool.eq_false_iff.mpr e3]) k
    · exact ⟨_, rfl, iteT (q _ H (by have : ¬ (1 ≤ xs.length) := fun z => e1 (decide_eq_true (by omega)); simp [catalogL, this]) .refl)⟩
  | _ => exact iteT (iteT (q H .refl))
end
end K1
end

section
set_option maxRecDepth 100000
set_option maxHeartbeats 2000000
namespace K1
open PySem PySem.Spec PyProof.Rows L2 Gd
abbrev s_is_word : Stmt := topS 25
theorem sc_is_word : FnScope ["_law_thing", "_law_sign"] ["_law_thing"] (defScope s_is_word) := ⟨rfl, rfl, rfl, by decide +kernel, rfl, by decide +kernel, by decide +kernel⟩
section
variable {P : Program} {w : World} {K : PySem.W.Frag} {mg : Str → Option Value} {base : Heap} {t1 t2 t3 t4 : Tok}
theorem letter_in {c : Nat} : decide (c ∈ ("abcdefghijklmnopqrstuvwxyz" : Str).cps.toList) = letter c := by
  have e : ("abcdefghijklmnopqrstuvwxyz" : Str).cps.toList = (List.range 26).map (· + 97) := by decide +kernel
  rw [e]
  by_cases h : c ∈ (List.range 26).map (· + 97)
  · rw [decide_eq_true h]
    obtain ⟨m, hm, rfl⟩ := List.mem_map.mp h
    have := List.mem_range.mp hm
    simp only [letter]
    rw [decide_eq_true (by omega), decide_eq_true (by omega)]
    rfl
  · rw [decide_eq_false h]
    simp only [letter]
    by_cases h1 : 97 ≤ c
    · have h2 : ¬ c ≤ 122 := fun h2 => h (List.mem_map.mpr ⟨c - 97, List.mem_range.mpr (by omega), by omega⟩)
      rw [decide_eq_false h2, Bool.and_false]
    · rw [decide_eq_false h1, Bool.false_and]
theorem ok_is_word (B : Bs mg t1 t2 t3 t4) (D : Defd K mg "_law_is_word" s_is_word) : Callee P w K mg base CX0 1 "_law_is_word" ["_law_thing"] spWord := by
  refine D.ok sc_is_word (fun _ _ _ _ _ _ us hl => match us, hl with | [_], _ => rfl) len1 fun f cdv A outer s H vs Q E hgu hr h => ?_
  obtain ⟨M, v, d, rfl, r, sm, q⟩ := h
  refine ⟨_, (pss_cons (ps_if (PW.pt (pw_or (pt_not (pt_val (pe_callB call_isStr (by rfl) B.isinstance (by decide +kernel) (pa_cons (pv 0) (pa_cons (pe_bltn (v := .ty "str") (by rfl) B.str (by decide +kernel) rfl) pa_nil))))) (pw_or1 (pt_not (pt_chain op_lt op_lt pe_int (pe_callB call_len_str (by rfl) B.len PySem.boot_len (pa_cons (pv 0) pa_nil)) pe_int))))) (pss_one (ps_ret pe_bl)) pss_nil)
        (pss_one (ps_ret (pe_callB (cr_all rfl) (by rfl) B.all (by decide +kernel) (pa_cons (pe_lc (own := [("_law_sign", 1)])  rfl sc_is_word.nd (pi_str (pv 0)) (blkOk_by (N := ["_law_thing", "_law_sign"]) (sc := defScope s_is_word) (by decide +kernel)) (fun _ _ _ _ _ => (pg_name (i := 1) sc_is_word.nd rfl (.inl rfl))) (fun _ _ _ _ _ => pts_nil) (fun _ _ _ _ _ => (pe_cmpR op_in_sign (pv 1) pe_str (by rfl)))) pa_nil))))), ?_⟩
  refine ⟨v, rfl, M, v, d, rfl, r, _, rfl, ?_⟩
  cases r with
  | str x =>
    have hx : x.length ≤ 100000 := by
      have := sm.2.1
      simp only [wt] at this
      omega
    refine iteF ?_
    refine ⟨.str x, rfl, x, rfl, small hx, _, _, rfl, rfl, _, rfl, ?_⟩
    refine ite2 (fun e1 => ?_) (fun e1 => ?_)
    · refine ⟨_, _, rfl, rfl, _, rfl, ?_⟩
      refine ite2 (fun e2 => ?_) (fun e2 => ?_)
      · have hq : word (.str x) = false := by
          have : ¬ (x.length ≤ 8) := by simp at e2; omega
          simp [word, this]
        exact hq ▸ q H .refl
      · have h1 : 1 ≤ x.length := by simp at e1; omega
        have h2 : x.length ≤ 8 := by simp at e2; omega
        dsimp only [tNext, tRet]
        refine all_str (z := x) (fun m => letter (x.cps.getD m 0)) (fun R h => ⟨_, rfl, h⟩) (small hx) (fun m c H' hc k Kt hk => ⟨rfl, ?_⟩) fun H' k => ?_
        · have hk := hk H' .refl
          have e : x.cps.getD m 0 = c := by rw [Array.getD_eq_getD_getElem?, hc]; rfl
          rw [e, ← letter_in] at hk
          exact ⟨_, rfl, c, _, rfl, rfl, hk⟩
        · have hq : word (.str x) = ((List.range x.cps.size).map fun m => letter (x.cps.getD m 0)).all id := by
            rw [show x.cps.size = x.cps.toList.length from (Array.length_toList).symm, all_range x.cps.toList letter _ fun i c e => by rw [Array.getElem?_toList] at e; rw [Array.getD_eq_getD_getElem?, e]; rfl]
            simp [word, h1, h2]
          exact hq ▸ q H' k
    · have hq : word (.str x) = false := by
        have : ¬ (1 ≤ x.length) := by simp at e1; omega
        simp [word, this]
      exact ⟨_, rfl, iteT (hq ▸ q H .refl)⟩
  | _ => exact iteT (iteT (q H .refl))
end
end K1
end

section
set_option maxRecDepth 100000
set_option maxHeartbeats 2000000
namespace K1
open PySem PySem.Spec PyProof.Rows L2 Gd
abbrev s_rises : Stmt := topS 26
theorem sc_rises : FnScope ["_law_some", "_law_one", "_law_other"] ["_law_some"] (defScope s_rises) := ⟨rfl, rfl, rfl, by decide +kernel, rfl, by decide +kernel, by decide +kernel⟩
abbrev s_is_number : Stmt := topS 24
theorem sc_is_number : FnScope ["_law_thing", "_law_least", "_law_most"] ["_law_thing", "_law_least", "_law_most"] (defScope s_is_number) := ⟨rfl, rfl, rfl, by decide +kernel, rfl, by decide +kernel, by decide +kernel⟩
abbrev s_is_row : Stmt := topS 27
theorem sc_is_row : FnScope ["_law_thing", "_law_one"] ["_law_thing"] (defScope s_is_row) := ⟨rfl, rfl, rfl, by decide +kernel, rfl, by decide +kernel, by decide +kernel⟩
abbrev s_are_rows : Stmt := topS 28
theorem sc_are_rows : FnScope ["_law_thing", "_law_one"] ["_law_thing"] (defScope s_are_rows) := ⟨rfl, rfl, rfl, by decide +kernel, rfl, by decide +kernel, by decide +kernel⟩
section
variable {P : Program} {w : World} {K : PySem.W.Frag} {mg : Str → Option Value} {base : Heap} {t1 t2 t3 t4 : Tok}
def spAscL : Sp := fun vs H Q _ => ∃ (M : List Addr) (a : Addr) (us : List V) (xs : List PyData), vs = [.ref a] ∧ H a = some (.lst us) ∧ Reps M H us xs ∧ Row xs ∧ xs.length ≤ 1000 ∧ ∀ H', Kp [] H H' → Q (.bl (asc xs)) H'
def spRises : Sp := fun vs H Q E => spAsc vs H Q E ∨ spAscL vs H Q E
theorem ok_rises (B : Bs mg t1 t2 t3 t4) (D : Defd K mg "_law_rises" s_rises) : Callee P w K mg base CX0 1 "_law_rises" ["_law_some"] spRises := by
  refine D.ok sc_rises (fun _ _ _ _ _ _ us hl => match us, hl with | [_], _ => rfl) (fun vs H Q E h => h.elim (len1 (x := "_law_some") vs H Q E) fun ⟨_, _, _, _, e, _⟩ => by rw [e]; rfl) fun f cdv A outer s H vs Q E hgu hr h => ?_
  refine ⟨_, (pss_one (ps_ret (pe_callB (cr_all rfl) (by rfl) B.all (by decide +kernel) (pa_cons (pe_lc (own := [("_law_one", 1), ("_law_other", 2)]) (g := (gTup K 2 (gCons (gName 1) (gCons (gName 2) gNil)))) rfl sc_rises.nd (RZ.pi_zipA (by rfl) B.zip (pa_cons (pv 0) (pa_cons (pe_slice (sl_TL (K := K) rfl) (pv 0) (po_some pe_int) po_none) pa_nil))) (blkOk_by (N := ["_law_some", "_law_one", "_law_other"]) (sc := defScope s_rises) (by decide +kernel)) (fun _ _ _ _ _ => (by exact (pg_tup rfl (pgs_cons (pg_name (i := 1) sc_rises.nd rfl (.inl rfl)) (pgs_cons (pg_name (i := 2) sc_rises.nd rfl (.inl rfl)) pgs_nil))))) (fun _ _ _ _ _ => pts_nil) (fun _ _ _ _ _ => (pe_cmpR (op_ltD hr) (pv 1) (pv 2) (nomark _)))) pa_nil)))), ?_⟩
  rcases h with ⟨M, v, d, rfl, r, ⟨xs, rfl, row, many⟩, q⟩ | ⟨M, a, vs, xs, rfl, e, z, row, many, q⟩
  · cases r with
    | tup n e z =>
      rename_i a vs
      have hl := z.length
      dsimp only [tRet]
      refine all_zip (a := a) (xs := vs) (ys := vs.drop 1) (fun m => W.dataLt (xs.getD m .none) (xs.getD (m + 1) .none)) (fun R h => ?_) (small (by omega)) (fun m x y T H' ex ey k eT Kt hk => ?_) fun H' k => ?_
      · refine ⟨_, rfl, _, rfl, _, rfl, .inl ⟨_, _, rfl, .inl (.inl e), fun ⟨z1, _⟩ => ?_, fun _ p hp => ?_⟩⟩
        · have : vs = [] := by
            rw [show HT.sIx vs.length 0 (some 1) = min 1 vs.length from HT.sIx_nat _ _ 1] at z1
            cases vs with
            | nil => rfl
            | cons _ _ => simp at z1
          subst this
          exact h _ H .refl e e
        · exact h _ _ (.new hp) (Kp.new hp _ _ List.not_mem_nil e) (by rw [upd_same, cut1])
      · rw [List.getElem?_drop, Nat.add_comm] at ey
        obtain ⟨dx, e1, rx⟩ := z.at ex
        obtain ⟨dy, e2, ry⟩ := z.at ey
        obtain ⟨al, nn, dp⟩ := row m dx dy e1 e2
        have hk := hk H' .refl
        rw [List.getD_eq_getElem?_getD, List.getD_eq_getElem?_getD, e1, e2] at hk
        exact ⟨T, [x, y], rfl, .inl (.inl eT), rfl, x, [y], rfl, y, [], rfl, rfl, rfl, x, rfl, y, rfl, M, dx, dy, rx.keep (k.same), ry.keep (k.same), al, nn, dp, hk⟩
      · have q : Q (.bl (asc xs)) H' := q H' k
        rw [← asc_all] at q
        rw [List.length_drop, hl, ← List.length_drop]
        exact q
  · have hl := z.length
    dsimp only [tRet]
    refine all_zipL (a := a) (xs := vs) (ys := vs.drop 1) (fun m => W.dataLt (xs.getD m .none) (xs.getD (m + 1) .none)) (fun R h => ?_) (small (by omega)) (fun m x y T H' ex ey k eT Kt hk => ?_) fun H' k => ?_
    · refine ⟨_, rfl, _, rfl, _, rfl, .inr ⟨_, _, rfl, .inl (.inl e), fun p hp => ?_⟩⟩
      exact h _ _ (.new hp) (Kp.new hp _ _ List.not_mem_nil e) (by rw [upd_same, cut1])
    · rw [List.getElem?_drop, Nat.add_comm] at ey
      obtain ⟨dx, e1, rx⟩ := z.at ex
      obtain ⟨dy, e2, ry⟩ := z.at ey
      obtain ⟨al, nn, dp⟩ := row m dx dy e1 e2
      have hk := hk H' .refl
      rw [List.getD_eq_getElem?_getD, List.getD_eq_getElem?_getD, e1, e2] at hk
      exact ⟨T, [x, y], rfl, .inl (.inl eT), rfl, x, [y], rfl, y, [], rfl, rfl, rfl, x, rfl, y, rfl, M, dx, dy, rx.keep (k.same), ry.keep (k.same), al, nn, dp, hk⟩
    · have q : Q (.bl (asc xs)) H' := q H' k
      rw [← asc_all] at q
      rw [List.length_drop, hl, ← List.length_drop]
      exact q
def spNumber : Sp := fun vs H Q _ => ∃ M v d, vs = [v, .int 0, .int 1000000000] ∧ Rep M H v d ∧ ∀ H', Kp [] H H' → Q (.bl (version d)) H'
theorem ok_is_number (B : Bs mg t1 t2 t3 t4) (D : Defd K mg "_law_is_number" s_is_number) : Callee P w K mg base CX0 1 "_law_is_number" ["_law_thing", "_law_least", "_law_most"] spNumber := by
  refine D.ok sc_is_number (fun _ _ _ _ _ _ us hl => match us, hl with | [_, _, _], _ => rfl) (fun _ _ _ _ ⟨_, _, _, e, _⟩ => by rw [e]; rfl) fun f cdv A outer s H vs Q E hgu hr h => ?_
  obtain ⟨M, v, d, rfl, r, q⟩ := h
  refine ⟨_, (pss_one (ps_ret (pe_and (pe_callB call_isInt (by rfl) B.isinstance (by decide +kernel) (pa_cons (pv 0) (pa_cons (pe_bltn (v := .ty "int") (by rfl) B.int (by decide +kernel) rfl) pa_nil))) (pe_and (pe_not (pe_callB call_isBool (by rfl) B.isinstance (by decide +kernel) (pa_cons (pv 0) (pa_cons (pe_bltn (v := .ty "bool") (by rfl) B.bool (by decide +kernel) rfl) pa_nil)))) (pe_one (pe_chain op_le op_le (pv 1) (pv 0) (pv 2))))))), ?_⟩
  refine ⟨v, rfl, M, v, d, rfl, r, _, rfl, ?_⟩
  cases r with
  | int i =>
    refine iteT ⟨.int i, rfl, [], .int i, _, rfl, .int i, _, rfl, _, rfl, iteT ?_⟩
    have q : ∀ c, c = version (.int i) → Q (.bl c) H := fun c e => e ▸ q H .refl
    refine ⟨.int 0, rfl, .int i, rfl, 0, i, rfl, rfl, _, rfl, ?_⟩
    refine ite2 (fun e1 => ?_) (fun e1 => ?_)
    · exact ⟨.int 1000000000, rfl, i, _, rfl, rfl, q _ (by rw [version, e1, Bool.true_and])⟩
    · have e1 := Bool.eq_false_iff.mpr e1
      exact q _ (by rw [version, e1, Bool.false_and])
  | bl b => exact iteT ⟨.bl b, rfl, [], .bl b, _, rfl, .bl b, _, rfl, _, rfl, iteF (q H .refl)⟩
  | _ => exact iteF (q H .refl)
theorem ok_is_row (B : Bs mg t1 t2 t3 t4) (D : Defd K mg "_law_is_row" s_is_row) (C_law_is_word : Callee P w K mg base CX0 1 "_law_is_word" ["_law_thing"] spWord) (C_law_is_number : Callee P w K mg base CX0 1 "_law_is_number" ["_law_thing", "_law_least", "_law_most"] spNumber)
    (C_law_rises : Callee P w K mg base CX0 1 "_law_rises" ["_law_some"] spRises) : Callee P w K mg base CX0 2 "_law_is_row" ["_law_thing"] (sp1 Sm release) := by
  refine D.ok sc_is_row (fun _ _ _ _ _ _ us hl => match us, hl with | [_], _ => rfl) len1 fun f cdv A outer s H vs Q E hgu hr h => ?_
  obtain ⟨M, v, d, rfl, r, sm, q⟩ := h
  refine ⟨_, (pss_cons (ps_if (PW.pt (pw_or (pt_not (pt_val (pe_callB call_isTup (by rfl) B.isinstance (by decide +kernel) (pa_cons (pv 0) (pa_cons (pe_bltn (v := .ty "tuple") (by rfl) B.tuple (by decide +kernel) rfl) pa_nil))))) (pw_or (pt_cmpR op_ne (pe_callB call_len (by rfl) B.len PySem.boot_len (pa_cons (pv 0) pa_nil)) pe_int (nomark _)) (pw_or (pt_not (pt_val (pown C_law_is_word hgu (hr.mono (by omega)) (by rfl) pass0 (pa_cons (pe_ix (ix_tupK (K := K) rfl) (pv 0) pe_int (fun _ _ => rfl)) pa_nil)))) (pw_or1 (pt_not (pt_val (pe_callB call_isTup (by rfl) B.isinstance (by decide +kernel) (pa_cons (pe_ix (ix_tupK (K := K) rfl) (pv 0) pe_int (fun _ _ => rfl)) (pa_cons (pe_bltn (v := .ty "tuple") (by rfl) B.tuple (by decide +kernel) rfl) pa_nil)))))))))) (pss_one (ps_ret pe_bl)) pss_nil)
        (pss_cons (ps_if (PW.pt (pw_or (pt_not (pt_chain op_lt op_lt pe_int (pe_callB call_len (by rfl) B.len PySem.boot_len (pa_cons (pe_ix (ix_tupK (K := K) rfl) (pv 0) pe_int (fun _ _ => rfl)) pa_nil)) pe_int)) (pw_or1 (pt_not (pt_val (pe_callB (cr_all rfl) (by rfl) B.all (by decide +kernel) (pa_cons (pe_lc (own := [("_law_one", 1)])  rfl sc_is_row.nd (pi_tup (pe_ix (ix_tupK (K := K) rfl) (pv 0) pe_int (fun _ _ => rfl))) (blkOk_by (N := ["_law_thing", "_law_one"]) (sc := defScope s_is_row) (by decide +kernel)) (fun _ _ _ _ _ => (pg_name (i := 1) sc_is_row.nd rfl (.inl rfl))) (fun _ _ _ _ _ => pts_nil) (fun _ _ _ _ _ => (pown C_law_is_number hgu (hr.mono (by omega)) (by rfl) pass0 (pa_cons (pv 1) (pa_cons pe_int (pa_cons (pe_op op_pow pe_int pe_int) pa_nil)))))) pa_nil))))))) (pss_one (ps_ret pe_bl)) pss_nil)
        (pss_one (ps_ret (pown C_law_rises hgu (hr.mono (by omega)) (by rfl) pass0 (pa_cons (pe_ix (ix_tupK (K := K) rfl) (pv 0) pe_int (fun _ _ => rfl)) pa_nil)))))), ?_⟩
  refine ⟨v, rfl, M, v, d, rfl, r, _, rfl, ?_⟩
  cases r with
  | tup n e z =>
    rename_i a us xs
    have hl := z.length
    have q : ∀ k H', k = release (.tuple xs) → Kp [] H H' → Q (.bl k) H' := fun k H' e kp => e ▸ q H' kp
    refine iteF ?_
    refine ⟨.ref a, rfl, .ref a, xs.length, rfl, .inr ⟨us, .inl (.inl e), by rw [hl]⟩, rfl, _, rfl, ?_⟩
    by_cases h2 : xs.length = 2
    rotate_left
    · have e2 : decide (V.int xs.length = V.int 2) = false := decide_eq_false fun z => h2 (by injection z with z; omega)
      rw [e2]
      refine iteT (iteT (q _ H ?_ .refl))
      match xs, h2 with
      | [], _ | [_], _ | _ :: _ :: _ :: _, _ => rfl
      | [_, _], h => exact absurd rfl h
    rw [h2]
    refine iteF ?_
    match xs, us, h2, hl, z with
    | [x, y], [u0, u1], _, _, .cons r0 (.cons r1 .nil) =>
    have g0 : atI [u0, u1] 0 = some u0 := atI_nat (j := 0) rfl
    have g1 : atI [u0, u1] 1 = some u1 := atI_nat (j := 1) rfl
    have sx : Sm x := sm.item (by simp)
    have sy : Sm y := sm.item (by simp)
    refine ⟨_, rfl, a, _, 0, u0, rfl, rfl, .inl (.inl e), g0, M, u0, x, rfl, r0, sx, fun H1 k1 => ?_⟩
    have e1 := k1 _ _ List.not_mem_nil e
    by_cases w1 : word x = true
    rotate_left
    · have w1 := Bool.eq_false_iff.mpr w1
      exact ⟨false, by rw [w1], iteT (iteT (q _ H1 (by rw [release, w1, Bool.false_and]) k1))⟩
    refine ⟨true, by rw [w1], iteF ?_⟩
    refine ⟨_, rfl, a, _, 1, u1, rfl, rfl, .inl (.inl e1), g1, M, u1, y, rfl, r1.keep k1.same, ?_⟩
    by_cases ty : isTup y = true
    rotate_left
    · have ty := Bool.eq_false_iff.mpr ty
      refine ⟨false, by rw [ty], iteT (q _ H1 ?_ k1)⟩
      rw [release, w1, Bool.true_and]
      cases y <;> first | rfl | cases ty
    refine ⟨true, by rw [ty], iteF ?_⟩
    dsimp only [tNext]
    obtain ⟨vs, rfl⟩ : ∃ vs, y = .tuple vs := by cases y <;> first | exact ⟨_, rfl⟩ | cases ty
    have r1 := r1.keep k1.same (H' := H1)
    cases r1 with
    | @tup b bus _ nb eb zb =>
    have lb := zb.length
    have lv := sy.len
    have q : ∀ k H', k = versionsL vs → Kp [] H H' → Q (.bl k) H' := fun k H' e kp => q k H' (by rw [e, release, w1, Bool.true_and]; rfl) kp
    refine ⟨_, rfl, a, _, 1, .ref b, rfl, rfl, .inl (.inl e1), g1, .ref b, vs.length, rfl, .inr ⟨bus, .inl (.inl eb), by rw [lb]⟩, _, _, rfl, rfl, _, rfl, ?_⟩
    refine ite2 (fun c1 => ?_) (fun c1 => ?_)
    rotate_left
    · exact ⟨_, rfl, iteT (q _ H1 (by have : ¬ (1 ≤ vs.length) := fun z => c1 (decide_eq_true (by omega)); simp [versionsL, this]) k1)⟩
    refine ⟨_, _, rfl, rfl, _, rfl, ?_⟩
    refine ite2 (fun c2 => ?_) (fun c2 => ?_)
    · exact iteT (q _ H1 (by have : ¬ (vs.length ≤ 8) := (by simp at c2; omega); simp [versionsL, this]) k1)
    have h1 : 1 ≤ vs.length := by have := of_decide_eq_true c1; omega
    have h2 : vs.length ≤ 8 := by simp at c2; omega
    refine all_tup (a := b) (xs := bus) (fun m => version (vs.getD m .none)) (fun R h => ⟨_, rfl, a, _, 1, .ref b, rfl, rfl, .inl (.inl e1), g1, h⟩) eb (small (by omega)) (fun m x H' ex k Kt hk => ⟨rfl, ?_⟩) fun H2 k2 => ?_
    · obtain ⟨d, ed, rd⟩ := zb.at ex
      rw [List.getD_eq_getElem?_getD, ed] at hk
      exact ⟨_, rfl, 10, 9, rfl, rfl, ⟨by decide, by decide, by decide⟩, M, x, d, rfl, rd.keep k.same, hk⟩
    rw [lb, all_range vs version _ fun i d e => by rw [List.getD_eq_getElem?_getD, e]; rfl]
    by_cases c3 : vs.all version = true
    rotate_left
    · have c3 := Bool.eq_false_iff.mpr c3
      exact ⟨false, by rw [c3], iteT (q _ H2 (by simp [versionsL, c3]) (k1.trans k2))⟩
    refine ⟨true, by rw [c3], iteF ?_⟩
    dsimp only [tNext]
    refine ⟨_, rfl, a, _, 1, .ref b, rfl, rfl, .inl (.inl (k2 _ _ List.not_mem_nil e1)), g1, .inl ⟨M, .ref b, .tuple vs, rfl, (Rep.tup nb eb zb).keep k2.same, ⟨vs, rfl, row_vers c3, by omega⟩, fun H3 k3 => q _ H3 (by simp [versionsL, h1, h2, c3, items]) ((k1.trans k2).trans k3)⟩⟩
  | _ => exact iteT (iteT (q H .refl))
end
end K1
end

section
set_option maxRecDepth 100000
set_option maxHeartbeats 2000000
namespace K1
open PySem PySem.Spec PyProof.Rows L2 Gd
abbrev s_value_right : Stmt := topS 29
theorem sc_value_right : FnScope ["_law_thing", "_law_kept", "_law_due"] ["_law_thing"] (defScope s_value_right) := ⟨rfl, rfl, rfl, by decide +kernel, rfl, by decide +kernel, by decide +kernel⟩
def Fine (d : PyData) : Prop := Od (10 ^ 20 + 2) 15000 30 d
theorem Fine.sm {d : PyData} (f : Fine d) : Sm d := ⟨f.g.mono (Nat.le_trans (show 10 ^ 20 + 2 ≤ 2 ^ 100 by decide) (Nat.pow_le_pow_right (by decide) (by decide))), by have := f.w; omega, by have := f.d; omega⟩
theorem big : 10 ^ 20 + 2 < 2 ^ 400 := Nat.lt_of_lt_of_le (show 10 ^ 20 + 2 < 2 ^ 100 by decide) (Nat.pow_le_pow_right (by decide) (by decide))
theorem Fine.shows {d : PyData} (f : Fine d) : d.showable = true ∧ d.depth ≤ 100 ∧ d.shown.length ≤ sizeLine :=
  ⟨good.showable (B := 10 ^ 20 + 2) big f.g, by have := f.d; omega, by
    have := shown_le (B := 10 ^ 20 + 2) big f.g
    have := f.w
    rw [sizeLine_eq]; omega⟩
theorem bools_fine (x y z : Bool) : Fine (.list [.bool x, .bool y, .bool z]) := ⟨⟨trivial, trivial, trivial, trivial⟩, by simp only [wt, wts]; omega, by simp only [PyData.depth, PyData.depthAll]; omega⟩
section
variable {P : Program} {w : World} {K : PySem.W.Frag} {mg : Str → Option Value} {base : Heap} {t1 t2 t3 t4 : Tok}
theorem ok_are_rows (B : Bs mg t1 t2 t3 t4) (D : Defd K mg "_law_are_rows" s_are_rows) (C_law_is_row : Callee P w K mg base CX0 2 "_law_is_row" ["_law_thing"] (sp1 Sm release)) (C_law_rises : Callee P w K mg base CX0 1 "_law_rises" ["_law_some"] spRises) :
    Callee P w K mg base CX0 3 "_law_are_rows" ["_law_thing"] (sp1 Sm catalog) := by
  refine D.ok sc_are_rows (fun _ _ _ _ _ _ us hl => match us, hl with | [_], _ => rfl) len1 fun f cdv A outer s H vs Q E hgu hr h => ?_
  obtain ⟨M, v, d, rfl, r, sm, q⟩ := h
  refine ⟨_, (pss_cons (ps_if (PW.pt (pw_or (pt_not (pt_val (pe_callB call_isTup (by rfl) B.isinstance (by decide +kernel) (pa_cons (pv 0) (pa_cons (pe_bltn (v := .ty "tuple") (by rfl) B.tuple (by decide +kernel) rfl) pa_nil))))) (pw_or (pt_not (pt_chain op_lt op_lt pe_int (pe_callB call_len (by rfl) B.len PySem.boot_len (pa_cons (pv 0) pa_nil)) pe_int)) (pw_or1 (pt_not (pt_val (pe_callB (cr_all rfl) (by rfl) B.all (by decide +kernel) (pa_cons (pe_lc (own := [("_law_one", 1)])  rfl sc_are_rows.nd (pi_tup (pv 0)) (blkOk_by (N := ["_law_thing", "_law_one"]) (sc := defScope s_are_rows) (by decide +kernel)) (fun _ _ _ _ _ => (pg_name (i := 1) sc_are_rows.nd rfl (.inl rfl))) (fun _ _ _ _ _ => pts_nil) (fun _ _ _ _ _ => (pown C_law_is_row hgu (hr.mono (by omega)) (by rfl) pass0 (pa_cons (pv 1) pa_nil)))) pa_nil)))))))) (pss_one (ps_ret pe_bl)) pss_nil)
        (pss_one (ps_ret (pown C_law_rises hgu (hr.mono (by omega)) (by rfl) pass0 (pa_cons (pe_lc (own := [("_law_one", 1)])  rfl sc_are_rows.nd (pi_tup (pv 0)) (blkOk_by (N := ["_law_thing", "_law_one"]) (sc := defScope s_are_rows) (by decide +kernel)) (fun _ _ _ _ _ => (pg_name (i := 1) sc_are_rows.nd rfl (.inl rfl))) (fun _ _ _ _ _ => pts_nil) (fun _ _ _ _ _ => (pe_ix (ix_tupK (K := K) rfl) (pv 1) pe_int (fun _ _ => rfl)))) pa_nil))))), ?_⟩
  refine ⟨v, rfl, M, v, d, rfl, r, _, rfl, ?_⟩
  cases r with
  | tup n e z =>
    rename_i a us xs
    have hl := z.length
    have hx := sm.len
    have q : ∀ k H', k = catalogL xs → Kp [] H H' → Q (.bl k) H' := fun k H' e kp => e ▸ q H' kp
    refine iteF ?_
    refine ⟨.ref a, rfl, .ref a, xs.length, rfl, .inr ⟨us, .inl (.inl e), by rw [hl]⟩, _, _, rfl, rfl, _, rfl, ?_⟩
    refine ite2 (fun c1 => ?_) (fun c1 => ?_)
    rotate_left
    · exact ⟨_, rfl, iteT (q _ H (by have : ¬ (1 ≤ xs.length) := fun z => c1 (decide_eq_true (by omega)); simp [catalogL, this]) .refl)⟩
    refine ⟨_, _, rfl, rfl, _, rfl, ?_⟩
    refine ite2 (fun c2 => ?_) (fun c2 => ?_)
    · exact iteT (q _ H (by have : ¬ (xs.length ≤ 12) := (by simp at c2; omega); simp [catalogL, this]) .refl)
    have h1 : 1 ≤ xs.length := by have := of_decide_eq_true c1; omega
    have h2 : xs.length ≤ 12 := by simp at c2; omega
    refine all_tup (a := a) (xs := us) (fun m => release (xs.getD m .none)) (fun R h => ⟨_, rfl, h⟩) e (small (by omega)) (fun m x H' ex k Kt hk => ⟨rfl, ?_⟩) fun H1 k1 => ?_
    · obtain ⟨d, ed, rd⟩ := z.at ex
      rw [List.getD_eq_getElem?_getD, ed] at hk
      exact ⟨_, rfl, M, _, _, rfl, rd.keep k.same, sm.item (List.mem_of_getElem? ed), fun H3 k3 => hk H3 k3⟩
    rw [hl, all_range xs release _ fun i d e => by rw [List.getD_eq_getElem?_getD, e]; rfl]
    by_cases c3 : xs.all release = true
    rotate_left
    · have c3 := Bool.eq_false_iff.mpr c3
      exact ⟨false, by rw [c3], iteT (q _ H1 (by simp [catalogL, c3]) k1)⟩
    refine ⟨true, by rw [c3], iteF ?_⟩
    dsimp only [tNext, tRet]
    have z1 := z.keep k1.same (H' := H1)
    have e1 := k1 _ _ List.not_mem_nil e
    refine ⟨_, rfl, a, rfl, ⟨us, .inl (.inl e1)⟩, fun DD hD => ?_⟩
    refine lc_mapD (M := []) (walk_tup (K := K) (a := a) (xs := us)) (small (by omega)) hD (fun m => firstD (xs.getD m .none)) (fun H' k => .inl (.inl (k _ _ List.not_mem_nil e1))) (fun m x Hq H' hm k eD y Kt hk => ?_) fun acc H' k eD rs => ?_
    · obtain ⟨rfl, ex⟩ := y
      obtain ⟨d, ed, rd⟩ := z1.at ex
      obtain ⟨s1, y1, rfl⟩ := release_pair (List.all_eq_true.mp c3 d (List.mem_of_getElem? ed))
      rw [List.getD_eq_getElem?_getD, ed] at hk
      have rd := rd.keep k.same
      cases rd with
      | @tup t tus _ nt et zt =>
      match tus, zt with
      | [w0, w1], .cons rw0 _ =>
      refine ⟨rfl, .ref t, rfl, t, [w0, w1], 0, w0, rfl, rfl, .inl (.inl et), atI_nat (j := 0) rfl, hk w0 H' .refl ?_⟩
      cases rw0
      exact .str _
    · rw [hl, map_at firstD xs] at rs
      exact .inr ⟨[DD], DD, acc, xs.map firstD, rfl, eD, rs, row_firsts c3, by rw [List.length_map]; omega, fun H3 k3 => q _ H3 (by simp [catalogL, h1, h2, c3]) ((k1.trans k).trans k3)⟩
  | _ => exact iteT (iteT (q H .refl))
def spValue : Sp := fun vs H Q _ => ∃ M v d, vs = [v] ∧ Rep M H v d ∧ Fine d ∧ ∀ H', Kp [] H H' → Q (.bl true) H'
theorem ok_value_right (B : Bs mg t1 t2 t3 t4) (D : Defd K mg "_law_value_right" s_value_right) (C_law_is_word : Callee P w K mg base CX0 1 "_law_is_word" ["_law_thing"] spWord) (C_law_is_row : Callee P w K mg base CX0 2 "_law_is_row" ["_law_thing"] (sp1 Sm release))
    (C_law_are_rows : Callee P w K mg base CX0 3 "_law_are_rows" ["_law_thing"] (sp1 Sm catalog)) (Cis_name : Callee P w K mg base CX0 1 "is_name" ["value"] spWord) (Cis_release : Callee P w K mg base CX0 4 "is_release" ["value"] (sp1 Sm release)) (Cis_catalog : Callee P w K mg base CX0 5 "is_catalog" ["value"] (sp1 Sm catalog)) :
    Callee P w K mg base CX0 6 "_law_value_right" ["_law_thing"] spValue := by
  refine D.ok sc_value_right (fun _ _ _ _ _ _ us hl => match us, hl with | [_], _ => rfl) (fun _ _ _ _ ⟨_, _, _, e, _⟩ => by rw [e]; rfl) fun f cdv A outer s H vs Q E hgu hr h => ?_
  obtain ⟨M, v, d, rfl, r, fd, q⟩ := h
  obtain ⟨shw, dpx, shl⟩ := fd.shows
  refine ⟨_, (pss_cons (ps_par (i := 1) (j := 2) (by rfl) sc_value_right.nd rfl rfl (by decide) rfl rfl (pa_cons (pe_callB (call_repr hgu hr) (by rfl) B.repr (by decide +kernel) (pa_cons (pv 0) pa_nil)) (pa_cons (pe_lstS (pa_cons (pown C_law_is_word hgu (hr.mono (by omega)) (by rfl) pass0 (pa_cons (pv 0) pa_nil)) (pa_cons (pown C_law_is_row hgu (hr.mono (by omega)) (by rfl) pass0 (pa_cons (pv 0) pa_nil)) (pa_cons (pown C_law_are_rows hgu (hr.mono (by omega)) (by rfl) pass0 (pa_cons (pv 0) pa_nil)) pa_nil)))) pa_nil)) (by rfl))
        (pss_one (ps_ret (pe_and (pe_cmpR op_eq (pe_callB (call_repr hgu hr) (by rfl) B.repr (by decide +kernel) (pa_cons (pe_lstS (pa_cons (pown Cis_name hgu (hr.mono (by omega)) (by rfl) pass0 (pa_cons (pv 0) pa_nil)) (pa_cons (pown Cis_release hgu (hr.mono (by omega)) (by rfl) pass0 (pa_cons (pv 0) pa_nil)) (pa_cons (pown Cis_catalog hgu (hr.mono (by omega)) (by rfl) pass0 (pa_cons (pv 0) pa_nil)) pa_nil)))) pa_nil)) (pe_callB (call_repr hgu hr) (by rfl) B.repr (by decide +kernel) (pa_cons (pv 2) pa_nil)) (nomark _)) (pe_one (pe_cmpR op_eq (pe_callB (call_repr hgu hr) (by rfl) B.repr (by decide +kernel) (pa_cons (pv 0) pa_nil)) (pv 1) (nomark _))))))), ?_⟩
  refine ⟨v, rfl, M, v, d, rfl, r, shw, dpx, shl, v, rfl, M, v, d, rfl, r, fd.sm, fun H1 k1 => ⟨v, rfl, M, v, d, rfl, r.keep k1.same, fd.sm, fun H2 k2 => ⟨v, rfl, M, v, d, rfl, r.keep (k1.trans k2).same, fd.sm, fun H3 k3 => ⟨by show 3 ≤ sizeLine; decide, fun p hp np => ⟨_, _, rfl, ?_⟩⟩⟩⟩⟩
  have k13 := (k1.trans k2).trans k3
  have kp : Kp [] H3 (upd H3 p (.lst [.bl (word d), .bl (release d), .bl (catalog d)])) := Kp.new hp
  have ep : (upd H3 p (.lst [.bl (word d), .bl (release d), .bl (catalog d)])) p = some (.lst [.bl (word d), .bl (release d), .bl (catalog d)]) := upd_same
  have k14 := k13.trans kp
  generalize upd H3 p (.lst [.bl (word d), .bl (release d), .bl (catalog d)]) = H4 at kp ep k14
  obtain ⟨shb, dpb, szb⟩ := (bools_fine (word d) (release d) (catalog d)).shows
  have r4 := r.keep k14.same
  refine ⟨v, rfl, M, v, d, rfl, r4, fd.sm, fun H5 k5 => ⟨v, rfl, M, v, d, rfl, r4.keep k5.same, fd.sm, fun H6 k6 => ⟨v, rfl, M, v, d, rfl, r4.keep (k5.trans k6).same, fd.sm, fun H7 k7 => ⟨by show 3 ≤ sizeLine; decide, fun p2 hp2 np2 => ?_⟩⟩⟩⟩
  have k47 := (k5.trans k6).trans k7
  have kp2 : Kp [] H7 (upd H7 p2 (.lst [.bl (word d), .bl (release d), .bl (catalog d)])) := Kp.new hp2
  have k48 := k47.trans kp2
  have bs : ∀ {Hz : Hp} {t : Addr}, t ≠ sysModules → Hz t = some (.lst [.bl (word d), .bl (release d), .bl (catalog d)]) → Rep [] Hz (.ref t) (.list [.bool (word d), .bool (release d), .bool (catalog d)]) := fun n e => .lst List.not_mem_nil n e (.cons (.bl _) (.cons (.bl _) (.cons (.bl _) .nil)))
  refine ⟨[], .ref p2, _, rfl, bs np2 upd_same, shb, dpb, szb, .ref p, rfl, [], .ref p, _, rfl, bs np (k48 _ _ List.not_mem_nil ep), shb, dpb, szb, rfl, _, rfl, ite2 (fun _ => ?_) fun h => absurd (decide_eq_true rfl) h⟩
  refine ⟨v, rfl, M, v, d, rfl, r4.keep k48.same, shw, dpx, shl, _, rfl, rfl, ?_⟩
  rw [decide_eq_true rfl]
  exact q _ (k14.trans k48)
end
end K1
end

section
set_option maxRecDepth 100000
set_option maxHeartbeats 4000000
namespace K1
open PySem PySem.Spec PyProof.Rows L2 Gd
section
abbrev abc : Str := "abcdefghijklm"
theorem abc_cut (lo hi : Option Int) : (cutS abc lo hi).length ≤ 13 ∧ ∀ c ∈ (cutS abc lo hi).cps.toList, c < 128 := by
  have h := cutS_plain (x := abc) (lo := lo) (hi := hi)
  have l : abc.length = 13 := rfl
  have p : ∀ c ∈ abc.cps.toList, c < 128 := by decide +kernel
  exact ⟨by omega, fun c hc => p c (h.2 c hc)⟩
theorem sign_wd {x : Str} {i c : Nat} (p : ∀ c ∈ x.cps.toList, c < 128) (h : x.cps[i]? = some c) : Wd ⟨#[c]⟩ := by
  refine ⟨by show 1 ≤ 8; decide, fun z hz => ?_⟩
  have : z = c := by simpa using hz
  rw [this]
  exact p c (Array.mem_toList_iff.mpr (Array.mem_of_getElem? h))
theorem Od.mono {B B' W W' D D' : Nat} {d : PyData} (o : Od B W D d) (h1 : B ≤ B') (h2 : W ≤ W') (h3 : D ≤ D') : Od B' W' D' d := ⟨o.g.mono h1, Nat.le_trans o.w h2, Nat.le_trans o.d h3⟩
theorem od_tup {B W W' D : Nat} {xs : List PyData} (h : ∀ x ∈ xs, Od B W D x) (hw : wts xs + 1 ≤ W') : Od B W' (D + 1) (.tuple xs) := by
  refine ⟨goods_iff.mpr fun x hx => (h x hx).g, by simp only [wt]; exact hw, ?_⟩
  have : PyData.depthAll xs ≤ D := depthAll_le.mpr fun x hx => (h x hx).d
  simp only [PyData.depth]; omega
theorem wts_le {B W D : Nat} : ∀ {xs : List PyData}, (∀ x ∈ xs, Od B W D x) → wts xs ≤ xs.length * (W + 1)
  | [], _ => by simp [wts]
  | x :: r, h => by
    have h1 := (h x List.mem_cons_self).w
    have h2 := wts_le fun y hy => h y (List.mem_cons_of_mem _ hy)
    simp only [wts, List.length_cons, Nat.succ_mul]
    omega
theorem od_str {B D : Nat} {s : Str} (h : Wd s) : Od B 9 D (.str s) := ⟨h.2, by have := h.1; simp only [wt]; omega, by simp only [PyData.depth]; omega⟩
theorem od_strs {B : Nat} {ss : List Str} (h : ∀ s ∈ ss, Wd s) (hl : ss.length ≤ 13) : Od B 150 1 (.tuple (ss.map .str)) := by
  have w : ∀ x ∈ ss.map PyData.str, Od B 9 0 x := fun x hx => by
    obtain ⟨s, hs, rfl⟩ := List.mem_map.mp hx
    exact od_str (h s hs)
  refine od_tup w ?_
  have := wts_le w
  rw [List.length_map] at this
  omega
/-- a list of fine data at p -/
def Bag (a p : Addr) (n : Nat) (H : Hp) : Prop := ∃ us ds, H p = some (.lst us) ∧ us.length ≤ n ∧ Reps [p, a] H us ds ∧ ∀ d ∈ ds, Fine d
theorem Bag.keep {a p : Addr} {n : Nat} {H H' : Hp} (b : Bag a p n H) (ne : p ≠ a) (k : Kp [a] H H') : Bag a p n H' := let ⟨us, ds, e, l, r, f⟩ := b; ⟨us, ds, k _ _ (fun z => ne (List.mem_singleton.mp z)) e, l, r.keep (k.more (by simp)), f⟩
theorem Bag.some {a p : Addr} {n : Nat} {H : Hp} (b : Bag a p n H) : ∃ o, H p = some o := let ⟨_, _, e, _⟩ := b; ⟨_, e⟩
theorem bag_new {a p : Addr} {H : Hp} {us : List V} {ds : List PyData} (hp : H p = none) (r : Reps [a] H us ds) (f : ∀ d ∈ ds, Fine d) : Bag a p us.length (upd H p (.lst us)) :=
  ⟨us, ds, upd_same, Nat.le_refl _, (r.more hp).keep (Kp.put List.mem_cons_self), f⟩
theorem bag_join {a p b : Addr} {n m : Nat} {H : Hp} {vs : List V} {es : List PyData} {R : VK} (bg : Bag a p n H) (eb : H b = some (.lst vs)) (rs : Reps [a] H vs es) (fe : ∀ d ∈ es, Fine d) (hm : vs.length ≤ m) (hn : n + m ≤ 1000)
    (q : ∀ p' H', Kp [] H H' → H p' = none → Bag a p' (n + m) H' → R (.ref p') H') : rCat (.ref p) (.ref b) H R := by
  obtain ⟨us, ds, e, l, r, f⟩ := bg
  refine ⟨p, b, us, vs, rfl, rfl, e, eb, small (by omega), fun p' hp => ?_⟩
  refine q p' _ (Kp.new hp) hp ⟨us ++ vs, ds ++ es, upd_same, by rw [List.length_append]; omega, ?_, fun d hd => (List.mem_append.mp hd).elim (f d) (fe d)⟩
  exact (((r.less (M' := [a]) (by simp)).append rs).more hp).keep (Kp.put List.mem_cons_self)
/-- some = some + [..] -/
theorem bag_cat {a p : Addr} {n m i : Nat} {H : Hp} {ta : TA} {σ : L2.St} {es : List PyData} {R : VK} (e6 : σ[i]? = some (some (.ref p))) (ne : p ≠ a) (bg : Bag a p n H) (ev : EvL [a] ta σ H es) (fe : ∀ d ∈ es, Fine d) (hm : es.length ≤ m) (hn : n + m ≤ 1000)
    (q : ∀ p' H', Kp [] H H' → H p' = none → Bag a p' (n + m) H' → R (.ref p') H') : tOp rCat (tVar i) (tLstS ta) σ H R := by
  refine ⟨_, e6, ev.run fun vs H2 k2 rs => ?_⟩
  have lv := rs.length
  refine ⟨small (by omega), fun b hb _ => ?_⟩
  have k3 : Kp [] H2 (upd H2 b (.lst vs)) := Kp.new hb
  exact bag_join (bg.keep ne (k2.trans k3).same) upd_same (rs.keep k3.same) fe (by omega) hn fun p' H' k np bg' => q p' H' ((k2.trans k3).trans k) (none_back (k2.trans k3) np) bg'
theorem small' {n : Nat} (h : n < 100000) : n < sizeLine := by rw [sizeLine_eq]; omega
theorem wd_of {s : Str} (h : s.length ≤ 8) (c : ∀ c ∈ s.cps.toList, c < 128) : Wd s := ⟨h, c⟩
theorem fine_pair {n0 n1 : PyData} (o0 : Od (10 ^ 20) 4000 10 n0) (o1 : Od (10 ^ 20) 4000 10 n1) : Fine (.tuple [n0, n1]) :=
  (od_tup (W := 4000) (D := 10) (W' := 15000) (fun x hx => by
    simp only [List.mem_cons, List.not_mem_nil, or_false] at hx
    rcases hx with rfl | rfl
    · exact o0
    · exact o1) (by
    have h0 := o0.w
    have h1 := o1.w
    simp only [wts]; omega)).mono (by decide) (Nat.le_refl _) (by decide)
theorem od_rel {d : PyData} (h : Rel d) : Od (10 ^ 20) 200 2 d := by
  obtain ⟨s, ns, rfl, ws, hl, hb⟩ := h
  have oi : ∀ x ∈ ns.map PyData.int, Od (10 ^ 20) 40 0 x := fun x hx => by
    obtain ⟨i, hi, rfl⟩ := List.mem_map.mp hx
    have := hb i hi
    exact ⟨by show i.natAbs ≤ _; omega, by simp only [wt]; omega, by simp only [PyData.depth]; omega⟩
  have w1 := wts_le oi
  rw [List.length_map] at w1
  have o1 : Od (10 ^ 20) 165 1 (.tuple (ns.map .int)) := od_tup oi (by omega)
  have w2 := o1.w
  have w3 := (od_str (B := 10 ^ 20) (D := 0) ws).w
  refine od_tup (W := 165) (D := 1) (fun x hx => ?_) (by simp only [wts]; omega)
  simp only [List.mem_cons, List.not_mem_nil, or_false] at hx
  rcases hx with rfl | rfl
  · exact (od_str ws).mono (Nat.le_refl _) (by decide) (Nat.le_refl _)
  · exact o1
theorem od_rels {n : Nat} {ds : List PyData} (h : ∀ d ∈ ds, Rel d) (hl : ds.length ≤ n) (hn : n ≤ 13) : Od (10 ^ 20) 2700 3 (.tuple ds) := by
  have w1 := wts_le (B := 10 ^ 20) (W := 200) (D := 2) fun x hx => od_rel (h x hx)
  have : ds.length * 201 ≤ 13 * 201 := Nat.mul_le_mul_right _ (by omega)
  exact od_tup (W := 200) (D := 2) (fun x hx => od_rel (h x hx)) (by omega)
theorem Od.fine {W D : Nat} {d : PyData} (o : Od (10 ^ 20) W D d) (h1 : W ≤ 15000) (h2 : D ≤ 30) : Fine d := o.mono (by decide) h1 h2
end
end K1
end

section
set_option maxRecDepth 100000
set_option maxHeartbeats 4000000
namespace K1
open PySem PySem.Spec PyProof.Rows L2 Gd
abbrev s_right : Stmt := topS 30
theorem sc_right : FnScope ["_law_deck_here", "_law_rows", "_law_chain_here", "_law_letters", "_law_some", "_law_turn", "_law_bent_here", "_law_versions", "_law_many", "_law_thing", "_law_one"] ["_law_deck_here"] (defScope s_right) := ⟨rfl, rfl, rfl, by decide +kernel, rfl, by decide +kernel, by decide +kernel⟩
section
variable {P : Program} {w : World} {K : PySem.W.Frag} {mg : Str → Option Value} {base : Heap} {t1 t2 t3 t4 : Tok}
def spRight : Sp := fun vs H Q _ => ∃ (a : Addr), vs = [.ref a] ∧ Deck H a 0 ∧ ∀ H', Kp [a] H H' → Q (.bl true) H'
theorem tc_i {x : V} {σ : L2.St} {H : Hp} {R : V → Hp → Prop} (h : R x H) : tC x σ H R := h
theorem cb1_i {r : List V → Hp → VK → Prop} {te : TE} {σ : L2.St} {H : Hp} {Q : VK} (h : te σ H fun x H1 => r [x] H1 Q) : tCB r (tCons te tNil) σ H Q := h
theorem gn_i {i : Nat} {x : V} {σ : L2.St} {H : Hp} {k : L2.St → Hp → Prop} (h : k (σ.set i (some x)) H) : gName i x σ H k := h
def tiny (d : PyData) : Prop := Od (10 ^ 20) 1000 8 d
theorem tiny_str {s : Str} (h : s.length ≤ 20) (c : ∀ c ∈ s.cps.toList, c < 128) : tiny (.str s) := ⟨c, by simp only [wt]; omega, by simp only [PyData.depth]; omega⟩
theorem tiny_ints {ns : List Int} (h : ns.length ≤ 10) (b : ∀ i ∈ ns, i.natAbs ≤ 10 ^ 20) : tiny (.tuple (ns.map .int)) := by
  have oi : ∀ x ∈ ns.map PyData.int, Od (10 ^ 20) 40 0 x := fun x hx => by
    obtain ⟨i, hi, rfl⟩ := List.mem_map.mp hx
    exact ⟨b i hi, by simp only [wt]; omega, by simp only [PyData.depth]; omega⟩
  have w1 := wts_le oi
  rw [List.length_map] at w1
  exact (od_tup (W' := 1000) oi (by omega)).mono (Nat.le_refl _) (Nat.le_refl _) (by decide)
theorem tiny_pair {x y : PyData} (hx : tiny x) (hy : tiny y) : Fine (.tuple [x, y]) := fine_pair (hx.mono (Nat.le_refl _) (by decide) (by decide)) (hy.mono (Nat.le_refl _) (by decide) (by decide))
theorem ok_right (B : Bs mg t1 t2 t3 t4) (D : Defd K mg "_law_right" s_right) (C_law_draw : Callee P w K mg base CX0 1 "_law_draw" ["_law_deck_here", "_law_many"] spDraw) (C_law_any : Callee P w K mg base CX0 2 "_law_any" ["_law_deck_here", "_law_items"] spAny)
    (C_law_catalog : Callee P w K mg base CX0 4 "_law_catalog" ["_law_deck_here", "_law_many"] spCatalog) (C_law_chain : Callee P w K mg base CX0 4 "_law_chain" ["_law_deck_here", "_law_steps", "_law_more"] spChain)
    (C_law_bent : Callee P w K mg base CX0 7 "_law_bent" ["_law_deck_here", "_law_thing", "_law_deep"] (spBent 3)) (C_law_value_right : Callee P w K mg base CX0 6 "_law_value_right" ["_law_thing"] spValue) :
    Callee P w K mg base CX0 8 "_law_right" ["_law_deck_here"] spRight := by
  refine D.ok sc_right (fun _ _ _ _ _ _ us hl => match us, hl with | [_], _ => rfl) (fun _ _ _ _ ⟨_, e, _⟩ => by rw [e]; rfl) fun f cdv A outer s H vs Q E hgu hr h => ?_
  obtain ⟨a, rfl, dk, q⟩ := h
  refine ⟨_, (pss_cons (ps_set (i := 1) sc_right.nd rfl (.inl rfl) (pown C_law_catalog hgu (hr.mono (by omega)) (by rfl) pass0 (pa_cons (pv 0) (pa_cons (pe_op op_add pe_int (pown C_law_draw hgu (hr.mono (by omega)) (by rfl) pass0 (pa_cons (pv 0) (pa_cons pe_int pa_nil)))) pa_nil))))
        (pss_cons (ps_set (i := 2) sc_right.nd rfl (.inl rfl) (pe_ix (ix_tupK (K := K) rfl) (pown C_law_chain hgu (hr.mono (by omega)) (by rfl) pass0 (pa_cons (pv 0) (pa_cons (pe_op op_add pe_int (pown C_law_draw hgu (hr.mono (by omega)) (by rfl) pass0 (pa_cons (pv 0) (pa_cons pe_int pa_nil)))) (pa_cons (pown C_law_draw hgu (hr.mono (by omega)) (by rfl) pass0 (pa_cons (pv 0) (pa_cons pe_int pa_nil))) pa_nil)))) pe_int (fun _ _ => rfl)))
        (pss_cons (ps_set (i := 3) sc_right.nd rfl (.inr rfl) pe_str)
        (pss_cons (ps_set (i := 4) sc_right.nd rfl (.inl rfl) (pe_lstS (pa_cons (pv 1) (pa_cons (pv 2) (pa_cons (pe_revT (pv 1)) (pa_cons (pe_op op_catA (pv 1) (pe_slice sl_tupA (pv 1) po_none (po_some pe_int))) (pa_cons (pe_ix (ix_tupK (K := K) rfl) (pv 1) pe_int (fun _ _ => rfl)) (pa_cons (pe_ix (ix_tupK (K := K) rfl) (pe_ix (ix_tupK (K := K) rfl) (pv 1) pe_int (fun _ _ => rfl)) pe_int (fun _ _ => rfl)) (pa_cons (pe_tup pa_nil) (pa_cons (pe_tup (pa_cons (pe_tup pa_nil) pa_nil)) (pa_cons pe_non (pa_cons pe_bl (pa_cons pe_int (pa_cons pe_str (pa_cons (pe_lstS pa_nil) (pa_cons pe_dnewK pa_nil))))))))))))))))
        (pss_cons (ps_set (i := 4) sc_right.nd rfl (.inl rfl) (pe_op op_cat (pv 4) (pe_lstS (pa_cons (pe_op op_mulS pe_str pe_int) (pa_cons (pe_op op_mulS pe_str pe_int) (pa_cons pe_str (pa_cons pe_str (pa_cons (pe_tup (pa_cons pe_str (pa_cons (pe_tup pa_nil) pa_nil))) pa_nil))))))))
        (pss_cons (ps_set (i := 4) sc_right.nd rfl (.inl rfl) (pe_op op_cat (pv 4) (pe_lc (own := [("_law_versions", 7)])  rfl sc_right.nd (pi_tup (pe_tup (pa_cons (pe_tup (pa_cons (pe_op op_pow pe_int pe_int) pa_nil)) (pa_cons (pe_tup (pa_cons (pe_op op_add (pe_op op_pow pe_int pe_int) pe_int) pa_nil)) (pa_cons (pe_tup (pa_cons (pe_un un_neg pe_int) pa_nil)) (pa_cons (pe_tup (pa_cons pe_int (pa_cons pe_int pa_nil))) (pa_cons (pe_lstS (pa_cons pe_int pa_nil)) pa_nil))))))) (blkOk_by (N := ["_law_deck_here", "_law_rows", "_law_chain_here", "_law_letters", "_law_some", "_law_turn", "_law_bent_here", "_law_versions", "_law_many", "_law_thing", "_law_one"]) (sc := defScope s_right) (by decide +kernel)) (fun _ _ _ _ _ => (pg_name (i := 7) sc_right.nd rfl (.inl rfl))) (fun _ _ _ _ _ => pts_nil) (fun _ _ _ _ _ => (pe_tup (pa_cons pe_str (pa_cons (pv 7) pa_nil)))))))
        (pss_cons (ps_set (i := 4) sc_right.nd rfl (.inl rfl) (pe_op op_cat (pv 4) (pe_lstS (pa_cons (pe_tup (pa_cons pe_str (pa_cons (pe_tupRg rfl (by rfl) B.tuple (prg_1 (by rfl) B.range pe_int)) pa_nil))) (pa_cons (pe_tup (pa_cons pe_str (pa_cons (pe_tupRg rfl (by rfl) B.tuple (prg_1 (by rfl) B.range pe_int)) pa_nil))) (pa_cons (pe_tup (pa_cons pe_str (pa_cons (pe_tup (pa_cons pe_int (pa_cons pe_int pa_nil))) pa_nil))) (pa_cons (pe_tup (pa_cons (pe_tup (pa_cons pe_str (pa_cons (pe_tup (pa_cons pe_int pa_nil)) pa_nil))) (pa_cons (pe_tup (pa_cons pe_str (pa_cons (pe_tup (pa_cons pe_int pa_nil)) pa_nil))) pa_nil))) pa_nil)))))))
        (pss_cons (ps_set (i := 4) sc_right.nd rfl (.inl rfl) (pe_op op_cat (pv 4) (pe_lc (own := [("_law_many", 8)])  rfl sc_right.nd (pi_tup (pe_tup (pa_cons pe_int (pa_cons pe_int pa_nil)))) (blkOk_by (N := ["_law_deck_here", "_law_rows", "_law_chain_here", "_law_letters", "_law_some", "_law_turn", "_law_bent_here", "_law_versions", "_law_many", "_law_thing", "_law_one"]) (sc := defScope s_right) (by decide +kernel)) (fun _ _ _ _ _ => (pg_name (i := 8) sc_right.nd rfl (.inl rfl))) (fun _ _ _ _ _ => pts_nil) (fun _ _ _ _ _ => (pe_callTy (call_tuple_ofK (K := K) rfl) (by rfl) B.tuple (by decide +kernel) (pa_cons (pe_lc (own := [("_law_one", 10)])  rfl sc_right.nd (pi_str (pe_slice sl_str (pv 3) po_none (po_some (pv 8)))) (blkOk_by (by rfl)) (fun _ _ _ _ _ => (pg_name (i := 10) sc_right.nd rfl (.inl rfl))) (fun _ _ _ _ _ => pts_nil) (fun _ _ _ _ _ => (pe_tup (pa_cons (pv 10) (pa_cons (pe_tup (pa_cons pe_int pa_nil)) pa_nil))))) pa_nil))))))
        (pss_cons (ps_for PassesOwn.never rfl (pi_range1 (by rfl) B.range (pa_cons pe_int pa_nil)) (pg_name (i := 5) sc_right.nd rfl (.inl rfl)) (pss_cons (ps_set (i := 6) sc_right.nd rfl (.inl rfl) (pown C_law_bent hgu (hr.mono (by omega)) (by rfl) pass0 (pa_cons (pv 0) (pa_cons (pown C_law_any hgu (hr.mono (by omega)) (by rfl) pass0 (pa_cons (pv 0) (pa_cons (pe_lstS (pa_cons (pv 1) (pa_cons (pv 2) pa_nil))) pa_nil))) (pa_cons pe_int pa_nil)))))
        (pss_one (ps_expr (pe_bm PySem.F.plainAttrs_list PySem.F.slot_list_extend PySem.F.type_list_extend mt_extend (pv 4) (pa_cons (pe_lstS (pa_cons (pv 6) (pa_cons (pown C_law_bent hgu (hr.mono (by omega)) (by rfl) pass0 (pa_cons (pv 0) (pa_cons (pv 6) (pa_cons pe_int pa_nil)))) pa_nil))) pa_nil))))))
        (pss_one (ps_ret (pe_callB (cr_all rfl) (by rfl) B.all (by decide +kernel) (pa_cons (pe_lc (own := [("_law_thing", 9)])  rfl sc_right.nd (pi_list (pv 4)) (blkOk_by (N := ["_law_deck_here", "_law_rows", "_law_chain_here", "_law_letters", "_law_some", "_law_turn", "_law_bent_here", "_law_versions", "_law_many", "_law_thing", "_law_one"]) (sc := defScope s_right) (by decide +kernel)) (fun _ _ _ _ _ => (pg_name (i := 9) sc_right.nd rfl (.inl rfl))) (fun _ _ _ _ _ => pts_nil) (fun _ _ _ _ _ => (pown C_law_value_right hgu (hr.mono (by omega)) (by rfl) pass0 (pa_cons (pv 9) pa_nil)))) pa_nil))))))))))))), ?_⟩
  refine seq_i (asg_i ?_)
  refine ⟨.ref a, rfl, .ref a, rfl, a, 0, 12, rfl, dk, by omega, by decide, by decide, fun r1 H1 hr1 k1 dk1 => ?_⟩
  refine ⟨1, r1, rfl, rfl, a, 1, r1 + 1, ?_, dk1, by omega, by omega, by omega, fun v1 ds1 H2 k2 rv1 hl1 rel1 dk2 => ?_⟩
  · show [V.ref a, V.int (1 + (r1 : Int))] = _
    rw [show (1 + (r1 : Int)) = ((r1 + 1 : Nat) : Int) by omega]
  refine ⟨.ref a, rfl, .ref a, rfl, a, 101, 8, rfl, dk2.mono (by omega), by omega, by decide, by decide, fun r2 H3 hr2 k3 dk3 => ?_⟩
  refine ⟨1, r2, rfl, rfl, .ref a, rfl, a, 102, 3, rfl, dk3, by omega, by decide, by decide, fun r3 H4 hr3 k4 dk4 => ?_⟩
  refine ⟨a, 103, r2 + 1, r3, ?_, dk4, by omega, by omega, fun v2 ds2 nm H5 k5 rv2 hl2 rel2 dk5 => ?_⟩
  · show [V.ref a, V.int (1 + (r2 : Int)), V.int (r3 : Int)] = _
    rw [show (1 + (r2 : Int)) = ((r2 + 1 : Nat) : Int) by omega]
  cases rv2 with
  | @tup t tus _ nt et zt =>
  match tus, zt with
  | [c0, c1], .cons rc0 _ =>
  refine ⟨t, [c0, c1], 0, c0, rfl, rfl, .inl (.inl et), atI_nat (j := 0) rfl, ?_⟩
  have k05 : Kp [a] H H5 := (((k1.trans k2).trans k3).trans k4).trans k5
  have rv1 : Rep [a] H5 v1 (.tuple ds1) := rv1.keep ((k3.trans k4).trans k5)
  obtain ⟨oa5, ea5⟩ := dk5.some
  have live5 : Live [a] H5 := .cons ea5 .nil
  clear k1 k2 k3 k4 k5 dk dk1 dk2 dk3 dk4 nt et zt
  have o1 := od_rels rel1 (n := 12) (by omega) (by decide)
  have o2 := od_rels rel2 (n := 12) (by omega) (by decide)
  have h1 : 0 < ds1.length := by omega
  obtain ⟨d0, ed0⟩ : ∃ d0, ds1[0]? = some d0 := ⟨_, List.getElem?_eq_getElem h1⟩
  have rd0 := rel1 d0 (List.mem_of_getElem? ed0)
  have od0 := od_rel rd0
  obtain ⟨s0, n0, rfl, ws0, _⟩ := rd0
  dsimp only
  refine seq_i (asg_i (tc_i (gn_i ?_)))
  dsimp only
  have ev1 : EvE [a] (tVar 1) [some (.ref a), some v1, some c0, some (.str abc), none, none, none, none, none, none, none] H5 (.tuple ds1) := ev_var rfl rv1
  have ev2 : EvE [a] (tVar 2) [some (.ref a), some v1, some c0, some (.str abc), none, none, none, none, none, none, none] H5 (.tuple ds2) := ev_var rfl rc0
  have ix0 := ev_ix (K := K) (i := 0) (ti := tC (.int 0)) ev1 (fun H1 R h => h) (atI_nat (j := 0) ed0)
  have ix00 := ev_ix (K := K) (i := 0) (ti := tC (.int 0)) ix0 (fun H1 R h => h) (atI_nat (j := 0) rfl)
  have tk1 := ev_take (K := K) (n := 1) (th := tPart (tC (.int 1))) live5 ev1 (fun H1 R h => ⟨1, rfl, h⟩)
  have tl : (ds1.take 1).length ≤ 1 := by rw [List.length_take]; omega
  have T1 : ∀ {te : TE} {d : PyData} {σ : L2.St} {H' : Hp}, Live [a] H' → EvE [a] te σ H' d → EvE [a] (tTup (tCons te tNil)) σ H' (.tuple [d]) := fun l e => ev_tup l (ev_cons e ev_nil) (by show 1 ≤ 100000; decide)
  have T2 : ∀ {te tf : TE} {d e : PyData} {σ : L2.St} {H' : Hp}, Live [a] H' → EvE [a] te σ H' d → EvE [a] tf σ H' e → EvE [a] (tTup (tCons te (tCons tf tNil))) σ H' (.tuple [d, e]) := fun l e f => ev_tup l (ev_cons e (ev_cons f ev_nil)) (by show 2 ≤ 100000; decide)
  have E0 : ∀ {σ : L2.St} {H' : Hp}, Live [a] H' → EvE [a] (tTup tNil) σ H' (.tuple []) := fun l => ev_tup l ev_nil (by decide)
  have L1 := ev_cons ev1 (ev_cons ev2 (ev_cons (ev_rev live5 ev1) (ev_cons (ev_cat (K := K) live5 ev1 tk1 (by omega)) (ev_cons ix0 (ev_cons ix00 (ev_cons (E0 live5) (ev_cons (T1 live5 (E0 live5)) (ev_cons ev_non (ev_cons (ev_bl true) (ev_cons (ev_int 0) (ev_cons (ev_str "") (ev_cons (ev_lst live5 ev_nil (by decide)) (ev_cons (ev_emp live5) ev_nil)))))))))))))
  have c0p : ∀ c ∈ ("" : Str).cps.toList, c < 128 := by decide +kernel
  refine seq_i (asg_i (lst_i (L1.run fun vs1 H6 k6 r6 => ⟨small (by rw [r6.length]; show 14 ≤ 100000; decide), fun p1 hp1 _ => ?_⟩)))
  have lv1 : vs1.length = 14 := r6.length
  have F1 : ∀ d ∈ [PyData.tuple ds1, PyData.tuple ds2, PyData.tuple ds1.reverse, PyData.tuple (ds1 ++ ds1.take 1), PyData.tuple [.str s0, .tuple (n0.map .int)], PyData.str s0, PyData.tuple [], PyData.tuple [.tuple []], PyData.none, PyData.bool true, PyData.int 0, PyData.str "", PyData.list [], PyData.dict []], Fine d := fun d hd => by
    simp only [List.mem_cons, List.not_mem_nil, or_false] at hd
    rcases hd with rfl | rfl | rfl | rfl | rfl | rfl | rfl | rfl | rfl | rfl | rfl | rfl | rfl | rfl
    · exact o1.fine (by decide) (by decide)
    · exact o2.fine (by decide) (by decide)
    · exact (od_rels (n := 12) (fun x hx => rel1 x (List.mem_reverse.mp hx)) (by rw [List.length_reverse]; omega) (by decide)).fine (by decide) (by decide)
    · exact (od_rels (n := 13) (fun x hx => (List.mem_append.mp hx).elim (rel1 x) fun h => rel1 x (List.mem_of_mem_take h)) (by rw [List.length_append]; omega) (by decide)).fine (by decide) (by decide)
    · exact od0.fine (by decide) (by decide)
    · exact (od_str (D := 0) ws0).fine (by decide) (by decide)
    all_goals
      refine ⟨?_, ?_, ?_⟩
      · first
          | trivial
          | exact c0p
          | rfl
          | (show Int.natAbs _ ≤ _; decide)
          | exact ⟨trivial, trivial⟩
      · simp only [wt, wts]; first | omega | (show (0 : Nat) + 1 ≤ _; omega) | decide
      · simp only [PyData.depth, PyData.depthAll, PyData.depthKv]; omega
  have b1 : Bag a p1 14 (upd H6 p1 (.lst vs1)) := lv1 ▸ bag_new hp1 r6 F1
  have kk1 : Kp [] H5 (upd H6 p1 (.lst vs1)) := k6.trans (Kp.new hp1)
  have na : ∀ {H' : Hp} {p : Addr}, Kp [] H5 H' → H' p = none → p ≠ a := fun k h => (ne_of_none (k _ _ List.not_mem_nil ea5) h).symm
  have np1 : p1 ≠ a := na k6 hp1
  generalize upd H6 p1 (.lst vs1) = H7 at b1 kk1
  clear L1 r6 k6 hp1 ix0 ix00 tk1 ev1 ev2 F1
  refine gn_i ?_
  dsimp only
  -- short texts
  have live7 := live5.grow kk1
  have m8 : MulOk "a" 8 := by unfold MulOk; decide +kernel
  have m9 : MulOk "a" 9 := by unfold MulOk; decide +kernel
  have L2' : EvL [a] _ [some (.ref a), some v1, some c0, some (.str abc), some (.ref p1), none, none, none, none, none, none] H7 _ := ev_cons (ev_mulS m8) (ev_cons (ev_mulS m9) (ev_cons (ev_str "aB") (ev_cons (ev_str "a1") (ev_cons (T2 live7 (ev_str "a") (E0 live7)) ev_nil))))
  have t0 : tiny (.tuple []) := ⟨trivial, by simp only [wt, wts]; omega, by simp only [PyData.depth, PyData.depthAll]; omega⟩
  have ta : tiny (.str "a") := tiny_str (by decide) (by decide +kernel)
  have tf : ∀ {d : PyData}, tiny d → Fine d := fun h => Od.fine h (by decide) (by decide)
  refine seq_i (asg_i (bag_cat (m := 5) (e6 := rfl) np1 b1 L2' (fun d hd => ?_) (Nat.le_refl _) (by decide) fun p2 H8 k8 hp2 b2 => ?_))
  · simp only [List.mem_cons, List.not_mem_nil, or_false] at hd
    rcases hd with rfl | rfl | rfl | rfl | rfl
    · exact tf (tiny_str (by decide +kernel) (by decide +kernel))
    · exact tf (tiny_str (by decide +kernel) (by decide +kernel))
    · exact tf (tiny_str (by decide +kernel) (by decide +kernel))
    · exact tf (tiny_str (by decide +kernel) (by decide +kernel))
    · exact tiny_pair ta t0
  have np2 : p2 ≠ a := na kk1 hp2
  have kk2 := kk1.trans k8
  clear L2'
  have live8 := live5.grow kk2
  refine gn_i ?_
  dsimp only
  -- versions of other kinds
  have small9 : ∀ {i : Int}, i.natAbs ≤ 2000000000 → i.natAbs ≤ 10 ^ 20 := fun h => by omega
  have Lv : EvL [a] _ [some (.ref a), some v1, some c0, some (.str abc), some (.ref p2), none, none, none, none, none, none] H8 [.tuple ([1000000000].map .int), .tuple ([1000000001].map .int), .tuple ([-1].map .int), .tuple ([2, 1].map .int), .list [.int 1]] :=
    ev_cons (T1 live8 (te := tOp (rI CPow fun i j => V.int (i ^ j.toNat)) (tC (.int 10)) (tC (.int 9))) fun H1 _ R q => ⟨10, 9, rfl, rfl, ⟨by decide, by decide, by decide⟩, q _ H1 .refl (.int 1000000000)⟩)
    (ev_cons (T1 live8 (te := tOp (rI0 fun i j => V.int (i + j)) (tOp (rI CPow fun i j => V.int (i ^ j.toNat)) (tC (.int 10)) (tC (.int 9))) (tC (.int 1))) fun H1 _ R q => ⟨10, 9, rfl, rfl, ⟨by decide, by decide, by decide⟩, 1000000000, 1, rfl, rfl, q _ H1 .refl (.int 1000000001)⟩)
    (ev_cons (T1 live8 (ev_neg 1)) (ev_cons (T2 live8 (ev_int 2) (ev_int 1)) (ev_cons (ev_lst live8 (ev_cons (ev_int 1) ev_nil) (by show 1 ≤ 100000; decide)) ev_nil))))
  have tv : ∀ d ∈ [PyData.tuple ([1000000000].map .int), .tuple ([1000000001].map .int), .tuple ([-1].map .int), .tuple ([2, 1].map .int), .list [.int 1]], tiny d := fun d hd => by
    simp only [List.mem_cons, List.not_mem_nil, or_false] at hd
    rcases hd with rfl | rfl | rfl | rfl | rfl
    · exact tiny_ints (by decide) (by decide)
    · exact tiny_ints (by decide) (by decide)
    · exact tiny_ints (by decide) (by decide)
    · exact tiny_ints (by decide) (by decide)
    · exact ⟨⟨show Int.natAbs _ ≤ _ by decide, trivial⟩, by simp only [wt, wts]; omega, by simp only [PyData.depth, PyData.depthAll]; omega⟩
  refine ⟨.ref p2, rfl, ?_⟩
  refine lc_dispD (P := Fine) Lv (by show 5 ≤ 1000; decide) (fun m x d DD H' ed rx k nD eD Kt hk => ⟨rfl, ?_⟩) fun DD acc es H11 k11 nD eD hl rs fe => ?_
  · obtain ⟨oD, eD⟩ := eD
    have lD : Live [DD, a] H' := .cons eD (live8.grow k)
    exact (ev_tup lD (ev_cons (ev_str "a") (ev_cons (ev_var rfl rx) ev_nil)) (by show 2 ≤ 100000; decide)).run fun y H8 k8 r8 => hk y _ H8 k8 r8 (tiny_pair ta (tv d (List.mem_of_getElem? ed)))
  refine bag_join (m := 5) (b2.keep np2 k11.same) eD (rs.less (by simp)) fe (by rw [hl]; exact Nat.le_refl 5) (by decide) fun p3 H12 k12 hp3 b3 => ?_
  have kk3 := kk2.trans (k11.trans k12)
  have np3 : p3 ≠ a := na (kk2.trans k11) hp3
  clear rs fe eD hl Lv tv
  have live12 := live5.grow kk3
  refine gn_i ?_
  dsimp only
  -- eight, nine versions
  have L4 : EvL [a] _ [some (.ref a), some v1, some c0, some (.str abc), some (.ref p3), none, none, none, none, none, none] H12 _ := ev_cons (T2 live12 (ev_str "a") (ev_tupRg (n := 8) live12 (by decide) (by decide))) (ev_cons (T2 live12 (ev_str "a") (ev_tupRg (n := 9) live12 (by decide) (by decide))) (ev_cons (T2 live12 (ev_str "a") (T2 live12 (ev_int 1) (ev_int 1))) (ev_cons (T2 live12 (T2 live12 (ev_str "a") (T1 live12 (ev_int 1))) (T2 live12 (ev_str "a") (T1 live12 (ev_int 2)))) ev_nil)))
  have one : ∀ i : Int, i.natAbs ≤ 5 → tiny (.tuple [.str "a", .tuple [.int i]]) := fun i h => by
    have l1 : ("a" : Str).length = 1 := rfl
    exact ⟨⟨ta.g, ⟨show i.natAbs ≤ _ by omega, trivial⟩, trivial⟩, by simp only [wt, wts]; omega, by simp only [PyData.depth, PyData.depthAll]; omega⟩
  refine seq_i (asg_i (bag_cat (m := 4) (e6 := rfl) np3 b3 L4 (fun d hd => ?_) (Nat.le_refl _) (by decide) fun p4 H13 k13 hp4 b4 => ?_))
  · simp only [List.mem_cons, List.not_mem_nil, or_false] at hd
    rcases hd with rfl | rfl | rfl | rfl
    · exact tiny_pair ta (tiny_ints (by decide) (by decide))
    · exact tiny_pair ta (tiny_ints (by decide) (by decide))
    · exact tiny_pair ta (tiny_ints (ns := [1, 1]) (by decide) (by decide))
    · exact tiny_pair (one 1 (by decide)) (one 2 (by decide))
  have np4 : p4 ≠ a := na kk3 hp4
  have kk4 := kk3.trans k13
  clear L4
  have live13 := live5.grow kk4
  refine gn_i ?_
  dsimp only
  -- names of one letter
  have pr : ∀ c : Nat, c < 128 → Od (10 ^ 20) 60 3 (.tuple [.str ⟨#[c]⟩, .tuple [.int 1]]) := fun c h => ⟨⟨fun z hz => by
    have : z = c := by simpa using hz
    omega, ⟨show (1 : Int).natAbs ≤ _ by decide, trivial⟩, trivial⟩, by
    have l1 : (⟨#[c]⟩ : Str).length = 1 := rfl
    simp only [wt, wts]; omega, by simp only [PyData.depth, PyData.depthAll]; omega⟩
  refine ⟨.ref p4, rfl, ?_⟩
  refine lc_tupD (M := [a]) (P := Fine) (xs := [.int 12, .int 13]) (fun R h => ⟨by show 2 ≤ sizeLine; decide, fun t ht => h t _ (Kp.new ht) upd_same⟩) (small (by decide)) (fun m x DD H' ex k nD eD Kt hk => ⟨rfl, ?_⟩) fun DD acc es H14 k14 nD eD hl rs fe => ?_
  · obtain ⟨iv, rfl⟩ : ∃ iv : Int, x = .int iv := by
      match m, ex with
      | 0, ex => exact ⟨12, (Option.some.inj ex).symm⟩
      | 1, ex => exact ⟨13, (Option.some.inj ex).symm⟩
    obtain ⟨oD, eD⟩ := eD
    have lD : Live [DD, a] H' := .cons eD (live13.grow k)
    have cw := abc_cut none (some iv)
    refine cb1_i (lc_strD (M := [DD, a]) (P := fun d => Od (10 ^ 20) 60 3 d) (z := cutS abc none (some iv)) (fun R h => ⟨_, rfl, .int iv, rfl, iv, rfl, _, rfl, small (by decide), h⟩) (small (Nat.le_trans cw.1 (by decide))) (fun m2 c D2 H2 hc k2 nD2 eD2 Kt2 hk2 => ⟨rfl, ?_⟩) fun D2 acc2 es2 H3 k3 nD2 eD2 hl2 rs2 fe2 => ?_)
    · obtain ⟨oD2, eD2⟩ := eD2
      have lD2 : Live [D2, DD, a] H2 := .cons eD2 (lD.grow k2)
      exact (ev_tup lD2 (ev_cons (ev_var rfl (.str _)) (ev_cons (ev_tup lD2 (ev_cons (ev_int 1) ev_nil) (by show 1 ≤ 100000; decide)) ev_nil)) (by show 2 ≤ 100000; decide)).run fun y H8 k8 r8 => hk2 y _ H8 k8 r8 (pr c (cw.2 c (Array.mem_toList_iff.mpr (Array.mem_of_getElem? hc))))
    · have l3 : Live [DD, a] H3 := lD.grow k3
      have ll := rs2.length
      have la : acc2.length ≤ 13 := by rw [hl2]; exact cw.1
      refine ⟨D2, acc2, rfl, .inl ⟨.inl (.inl eD2), fun t ht => hk (.ref t) (.tuple es2) _ (k3.trans (Kp.new ht)) (.tup (l3.fresh ht) upd_same ((rs2.less (by simp)).keep (Kp.new ht))) ?_⟩⟩
      have w1 := wts_le fe2
      have : es2.length * 61 ≤ 13 * 61 := Nat.mul_le_mul_right _ (by omega)
      exact (od_tup (W' := 15000) fe2 (by omega)).fine (Nat.le_refl _) (by decide)
  refine bag_join (m := 2) (b4.keep np4 k14.same) eD (rs.less (by simp)) fe (by rw [hl]; exact Nat.le_refl 2) (by decide) fun p6 H15 k15 hp6 b6 => ?_
  have kk5 := kk4.trans (k14.trans k15)
  have np6 : p6 ≠ a := na (kk4.trans k14) hp6
  have n56 : H5 p6 = none := none_bk (kk4.trans k14) hp6
  clear rs fe eD hl
  refine gn_i ?_
  dsimp only
  have dk6 := dk5.keep kk5 List.not_mem_nil
  have rn1 : Rep [p6, a] H15 v1 (.tuple ds1) := (rv1.more n56).keep kk5.same
  have rn2 : Rep [p6, a] H15 c0 (.tuple ds2) := (rc0.more n56).keep kk5.same
  have n6 : H p6 = none := by
    cases c : H p6 with
    | none => rfl
    | some o => have := k05 p6 o (fun z => np6 (List.mem_singleton.mp z)) c; rw [n56] at this; cases this
  have kH : Kp [a] H H15 := k05.trans kk5.same
  have np6' : p6 ∉ [a] := fun z => np6 (List.mem_singleton.mp z)
  have up : ∀ {Hy Hz : Hp}, Kp [a] Hy Hz → Kp [p6, a] Hy Hz := fun k => k.more (by simp)
  refine ⟨14, rfl, by decide, by decide, ?_⟩
  refine for_it (walk_range (lo := 0) (n := (14 : Int).toNat)) (fun i σ H' => ∃ v5 v6, σ = [some (.ref a), some v1, some c0, some (.str abc), some (.ref p6), v5, v6, none, none, none, none] ∧ Kp [p6, a] H15 H' ∧ Deck H' a (203 + 15 * i) ∧ Bag a p6 (30 + 2 * i) H')
    ⟨none, none, rfl, .refl, dk6, b6⟩ (fun _ _ _ _ _ => trivial) ?_ ?_
  · rintro i x σ Hx H16 hi ⟨v5, v6, rfl, k16, dk16, b16⟩ ⟨rfl, rfl⟩
    have hi : i < 14 := hi
    obtain ⟨oa16, ea16⟩ := dk16.some
    have mem1 : a ∈ [p6, a] := by simp
    refine ⟨.ref a, rfl, .ref a, rfl, v1, rfl, c0, rfl, by show 2 ≤ sizeLine; decide, fun it hit _ => ?_⟩
    have kit : Kp [] H16 (upd H16 it (.lst [v1, c0])) := Kp.new hit
    have nit : it ≠ a := (ne_of_none ea16 hit).symm
    refine ⟨a, it, 203 + 15 * i, [v1, c0], rfl, dk16.keep kit List.not_mem_nil, by omega, nit, upd_same, by show 0 < 2; decide, by show 2 < 1000000; decide, fun ii vv H17 eii k17 dk17 => ?_⟩
    have k1617 : Kp [a] H16 H17 := kit.same.trans k17
    have b17 := b16.keep np6 k1617
    have k1517 : Kp [p6, a] H15 H17 := k16.trans (up k1617)
    obtain ⟨dd, rvv, odd⟩ : ∃ dd, Rep [p6, a] H17 vv dd ∧ Od (10 ^ 20) 2700 3 dd := by
      match ii, eii with
      | 0, eii => cases eii; exact ⟨_, rn1.keep k1517, o1⟩
      | 1, eii => cases eii; exact ⟨_, rn2.keep k1517, o2⟩
    have live : ∀ {Hz : Hp} {n m : Nat}, Deck Hz a n → Bag a p6 m Hz → Live [p6, a] Hz := fun d b => by
      obtain ⟨_, e1⟩ := d.some
      obtain ⟨_, e2⟩ := b.some
      exact .cons e2 (.cons e1 .nil)
    refine ⟨[p6, a], a, 203 + 15 * i + 1, vv, dd, 3, 10 ^ 20, 2700, 3, rfl, mem1, live dk17 b17, Nat.le_refl _, dk17, by omega, rvv, odd, Nat.le_refl _, by decide, by decide, fun w1 c1 H18 k18 rw1 od1 dk18 => ?_⟩
    have b18 := b17.keep np6 k18
    obtain ⟨us, ds, e18, l18, r18, f18⟩ := id b18
    refine ⟨.ref p6, rfl, .inl ⟨rfl, _, .inl (.inl e18)⟩, w1, rfl, .ref a, rfl, w1, rfl, [p6, a], a, 203 + 15 * i + 1 + 2 * 3 + 1, w1, c1, 3, 10 ^ 20 + 1, 2 * 2700 + 500, 3 + 3, rfl, mem1, live dk18 b18, Nat.le_refl _, dk18, by omega, rw1, od1, by decide, by decide, by decide, fun w2 c2 H19 k19 rw2 od2 dk19 => ?_⟩
    refine ⟨by show 2 ≤ sizeLine; decide, fun b hb _ => ?_⟩
    have e19 := k19 _ _ np6' e18
    have kb : Kp [] H19 (upd H19 b (.lst [w1, w2])) := Kp.new hb
    refine ⟨p6, b, us, [w1, w2], rfl, rfl, kb _ _ List.not_mem_nil e19, upd_same, small (by show us.length + 2 ≤ 100000; omega), ?_⟩
    have kput : Kp [p6, a] (upd H19 b (.lst [w1, w2])) (upd (upd H19 b (.lst [w1, w2])) p6 (.lst (us ++ [w1, w2]))) := Kp.put (by simp)
    refine ⟨_, _, rfl, (((k1517.trans (up k18)).trans (up k19)).trans kb.same).trans kput, ((dk19.keep kb List.not_mem_nil).keep (M := [p6]) (Kp.put (by simp)) (fun z => np6 (List.mem_singleton.mp z).symm)).mono (by omega), us ++ [w1, w2], ds ++ [c1, c2], upd_same, by rw [List.length_append]; show us.length + 2 ≤ _; omega, ?_, fun d hd => ?_⟩
    · exact (((r18.keep (up k19)).append (.cons (rw1.keep (up k19)) (.cons rw2 .nil))).keep kb.same).keep kput
    · rcases List.mem_append.mp hd with hd | hd
      · exact f18 d hd
      · simp only [List.mem_cons, List.not_mem_nil, or_false] at hd
        rcases hd with rfl | rfl
        · exact od1.mono (by decide) (by decide) (by decide)
        · exact od2.mono (by decide) (by decide) (by decide)
  · rintro σ H16 ⟨v5, v6, rfl, k16, dk16, us, ds, e16, l16, r16, f16⟩
    dsimp only [tRet]
    refine all_list (a := p6) (xs := us) (fun _ => true) (fun R h => ⟨_, rfl, h⟩) e16 (small (by have : us.length ≤ 30 + 2 * 14 := l16; omega)) (fun m x H' ex k Kt hk => ⟨rfl, ?_⟩) fun H' k => ?_
    · obtain ⟨d, ed, rd⟩ := r16.at ex
      exact ⟨_, rfl, [p6, a], x, d, rfl, rd.keep k.same, f16 d (List.mem_of_getElem? ed), fun H3 k3 => hk H3 k3⟩
    · have e : (((List.range us.length).map fun _ => true).all id) = true := by simp
      rw [e]
      have : Kp [p6, a] H H' := (kH.more (by simp)).trans (k16.trans k.same)
      exact q H' (Kp.drop n6 this)
end
end K1
end

section
set_option maxRecDepth 100000
set_option maxHeartbeats 2000000
namespace K1
open PySem PySem.Spec PyProof.Rows L2 Gd
abbrev s_law : Stmt := topS 31
theorem sc_law : FnScope ["_law_script", "_law_k"] ["_law_script"] (defScope s_law) := ⟨rfl, rfl, rfl, by decide +kernel, rfl, by decide +kernel, by decide +kernel⟩
section
variable {P : Program} {w : World} {K : PySem.W.Frag} {mg : Str → Option Value} {base : Heap} {t1 t2 t3 t4 : Tok}
theorem sqL_keep {H H' : Hp} {a : Addr} {xs : List V} (h : SqL K H a xs) (k : Kp [] H H') : SqL K H' a xs :=
  h.elim (fun h => .inl (h.elim (fun h => .inl (k _ _ List.not_mem_nil h)) fun ⟨o, h⟩ => .inr ⟨o, k _ _ List.not_mem_nil h⟩)) .inr
def spLaw (K : PySem.W.Frag) : Sp := fun vs H Q _ => ∃ (a : Addr) (ns : List Int), vs = [.ref a] ∧ SqL K H a (ns.map V.int) ∧ ns.length ≤ 63 ∧ ∀ H', Q (.bl true) H'
theorem ok_law {f : Addr} {fd : FuncData} (B : Bs mg t1 t2 t3 t4) (F : Fun K "law" "law" s_law f fd) (C_law_deck : Callee P w K mg base CX0 1 "_law_deck" ["_law_script", "_law_k"] (spDeck K)) (C_law_right : Callee P w K mg base CX0 8 "_law_right" ["_law_deck_here"] spRight) :
    FnG P w K mg base CX0 9 f fd ["_law_script"] (spLaw K) := by
  refine okG F sc_law (fun _ _ _ _ ⟨_, _, e, _⟩ => by rw [e]; rfl) fun cdv A outer s H vs Q E hgu hr h => ?_
  obtain ⟨a, ns, rfl, hS, hn, q⟩ := h
  refine ⟨_, (pss_one (ps_ret (pe_callB (cr_all rfl) (by rfl) B.all (by decide +kernel) (pa_cons (pe_lc (own := [("_law_k", 1)])  rfl sc_law.nd (pi_range1 (by rfl) B.range (pa_cons (pe_callB (call_max2 rfl) (by rfl) B.max (by decide +kernel) (pa_cons pe_int (pa_cons (pe_callB (call_min2 rfl) (by rfl) B.min (by decide +kernel) (pa_cons pe_int (pa_cons (pe_callB call_len (by rfl) B.len PySem.boot_len (pa_cons (pv 0) pa_nil)) pa_nil))) pa_nil))) pa_nil)) (blkOk_by (N := ["_law_script", "_law_k"]) (sc := defScope s_law) (by decide +kernel)) (fun _ _ _ _ _ => (pg_name (i := 1) sc_law.nd rfl (.inl rfl))) (fun _ _ _ _ _ => pts_nil) (fun _ _ _ _ _ => (pown C_law_right hgu (hr.mono (by omega)) (by rfl) pass0 (pa_cons (pown C_law_deck hgu (hr.mono (by omega)) (by rfl) pass0 (pa_cons (pv 0) (pa_cons (pv 1) pa_nil))) pa_nil)))) pa_nil)))), ?_⟩
  have bd : ∃ j : Nat, (if (if (ns.length : Int) < 3 then (ns.length : Int) else 3) > 1 then (if (ns.length : Int) < 3 then (ns.length : Int) else 3) else 1) = j ∧ j ≤ 3 := by
    refine ⟨(if (if (ns.length : Int) < 3 then (ns.length : Int) else 3) > 1 then (if (ns.length : Int) < 3 then (ns.length : Int) else 3) else 1).toNat, ?_, ?_⟩
    all_goals
      repeat (split <;> try omega)
  obtain ⟨j, ej, hj⟩ := bd
  refine ⟨.ref a, rfl, .ref a, ns.length, rfl, .inl ⟨_, hS, by simp⟩, 3, ns.length, rfl, 1, _, rfl, _, rfl, ?_⟩
  rw [ej]
  refine ⟨by omega, by omega, fun DD hD => ?_⟩
  refine lc_bools (walk_range (lo := 0) (n := (j : Int).toNat)) (small (by omega)) hD (fun _ => true) (fun _ _ => trivial) (fun i x H4 H5 hi k4 y Kt hk => ?_) fun H4 k4 e4 => ?_
  · obtain ⟨rfl, rfl⟩ := y
    exact ⟨rfl, .ref a, rfl, .int (0 + i), rfl, a, ns, i, by rw [Int.zero_add]; rfl, sqL_keep hS k4, by omega, fun p H6 k6 np dk => ⟨p, rfl, dk, fun H7 k7 => hk H7 (Kp.drop np (k6.same.trans k7))⟩⟩
  · refine ⟨DD, (List.range (j : Int).toNat).map fun _ => true, rfl, .inl (.inl (by rw [List.map_map]; exact e4)), ?_⟩
    have e : (((List.range (j : Int).toNat).map fun _ => true).all id) = true := by simp
    rw [e]
    exact q H4
end
end K1
end

section
set_option maxRecDepth 100000
set_option maxHeartbeats 2000000
namespace K1
open PySem PySem.Spec PyProof.Rows L2 Gd
theorem defd {K : PySem.W.Frag} {mg : Str → Option Value} {h : Heap} {x : Str} {st : Stmt} {f : Addr} {oc : Value} {od an : Option Addr} {osl : Array (Option Value)} {kV doc pm cdv ct : Value} (X : K.In h) (G : h.Ns mainGlobals mg) (a : PySem.W.nsIn K mainGlobals x = some (some (.ref f)))
    (l : K.lookup f = some ⟨oc, od, .func (PySem.W.fnOf x x (defArgs st) (defBody st) (defScope st) .none kV doc pm an cdv ct), osl⟩) (c : PySem.W.codeIn K cdv x = true) (k : PySem.W.keepIn K (.ref f) = true) : Defd K mg x st := ⟨f, _, PySem.W.mg_of X G a, fun_mk (st := st) l c k⟩
theorem all_mk {l : PySem.W.OpenLaw} {w : World} {K : PySem.W.Frag} {h : Heap} {mg : Str → Option Value} {fa f0 f1 f2 f3 f4 f5 f6 f7 f8 f9 f10 f11 f12 f13 f14 f15 f16 f17 f18 f19 f20 f21 f22 f23 f24 : Addr} (X : K.In h) (G : h.Ns mainGlobals mg) (hfa : mg "law" = some (.ref fa)) {t1 t2 t3 t4 : Tok}
    {od0 an0 od1 an1 od2 an2 od3 an3 od4 an4 od5 an5 od6 an6 od7 an7 od8 an8 od9 an9 od10 an10 od11 an11 od12 an12 od13 an13 od14 an14 od15 an15 od16 an16 od17 an17 od18 an18 od19 an19 od20 an20 od21 an21 od22 an22 od23 an23 od24 an24 : Option Addr} {sl0 sl1 sl2 sl3 sl4 sl5 sl6 sl7 sl8 sl9 sl10 sl11 sl12 sl13 sl14 sl15 sl16 sl17 sl18 sl19 sl20 sl21 sl22 sl23 sl24 : Array (Option Value)} {oc0 kV0 dc0 pm0 cd0 ct0 oc1 kV1 dc1 pm1 cd1 ct1 oc2 kV2 dc2 pm2 cd2 ct2 oc3 kV3 dc3 pm3 cd3 ct3 oc4 kV4 dc4 pm4 cd4 ct4 oc5 kV5 dc5 pm5 cd5 ct5 oc6 kV6 dc6 pm6 cd6 ct6 oc7 kV7 dc7 pm7 cd7 ct7 oc8 kV8 dc8 pm8 cd8 ct8 oc9 kV9 dc9 pm9 cd9 ct9 oc10 kV10 dc10 pm10 cd10 ct10 oc11 kV11 dc11 pm11 cd11 ct11 oc12 kV12 dc12 pm12 cd12 ct12 oc13 kV13 dc13 pm13 cd13 ct13 oc14 kV14 dc14 pm14 cd14 ct14 oc15 kV15 dc15 pm15 cd15 ct15 oc16 kV16 dc16 pm16 cd16 ct16 oc17 kV17 dc17 pm17 cd17 ct17 oc18 kV18 dc18 pm18 cd18 ct18 oc19 kV19 dc19 pm19 cd19 ct19 oc20 kV20 dc20 pm20 cd20 ct20 oc21 kV21 dc21 pm21 cd21 ct21 oc22 kV22 dc22 pm22 cd22 ct22 oc23 kV23 dc23 pm23 cd23 ct23 oc24 kV24 dc24 pm24 cd24 ct24 : Value}
    (a0 : PySem.W.nsIn K mainGlobals "is_integer" = some (some (.ref f0))) (l0 : K.lookup f0 = some ⟨oc0, od0, .func (PySem.W.fnOf "is_integer" "is_integer" (defArgs s_is_integer) (defBody s_is_integer) (defScope s_is_integer) .none kV0 dc0 pm0 an0 cd0 ct0), sl0⟩) (c0 : PySem.W.codeIn K cd0 "is_integer" = true) (k0 : PySem.W.keepIn K (.ref f0) = true)
    (a1 : PySem.W.nsIn K mainGlobals "is_ascending" = some (some (.ref f1))) (l1 : K.lookup f1 = some ⟨oc1, od1, .func (PySem.W.fnOf "is_ascending" "is_ascending" (defArgs s_is_ascending) (defBody s_is_ascending) (defScope s_is_ascending) .none kV1 dc1 pm1 an1 cd1 ct1), sl1⟩) (c1 : PySem.W.codeIn K cd1 "is_ascending" = true) (k1 : PySem.W.keepIn K (.ref f1) = true)
    (a2 : PySem.W.nsIn K mainGlobals "is_name" = some (some (.ref f2))) (l2 : K.lookup f2 = some ⟨oc2, od2, .func (PySem.W.fnOf "is_name" "is_name" (defArgs s_is_name) (defBody s_is_name) (defScope s_is_name) .none kV2 dc2 pm2 an2 cd2 ct2), sl2⟩) (c2 : PySem.W.codeIn K cd2 "is_name" = true) (k2 : PySem.W.keepIn K (.ref f2) = true)
    (a3 : PySem.W.nsIn K mainGlobals "is_release" = some (some (.ref f3))) (l3 : K.lookup f3 = some ⟨oc3, od3, .func (PySem.W.fnOf "is_release" "is_release" (defArgs s_is_release) (defBody s_is_release) (defScope s_is_release) .none kV3 dc3 pm3 an3 cd3 ct3), sl3⟩) (c3 : PySem.W.codeIn K cd3 "is_release" = true) (k3 : PySem.W.keepIn K (.ref f3) = true)
    (a4 : PySem.W.nsIn K mainGlobals "is_catalog" = some (some (.ref f4))) (l4 : K.lookup f4 = some ⟨oc4, od4, .func (PySem.W.fnOf "is_catalog" "is_catalog" (defArgs s_is_catalog) (defBody s_is_catalog) (defScope s_is_catalog) .none kV4 dc4 pm4 an4 cd4 ct4), sl4⟩) (c4 : PySem.W.codeIn K cd4 "is_catalog" = true) (k4 : PySem.W.keepIn K (.ref f4) = true)
    (a5 : PySem.W.nsIn K mainGlobals "are_versions" = some (some (.ref f5))) (l5 : K.lookup f5 = some ⟨oc5, od5, .func (PySem.W.fnOf "are_versions" "are_versions" (defArgs s_are_versions) (defBody s_are_versions) (defScope s_are_versions) .none kV5 dc5 pm5 an5 cd5 ct5), sl5⟩) (c5 : PySem.W.codeIn K cd5 "are_versions" = true) (k5 : PySem.W.keepIn K (.ref f5) = true)
    (a6 : PySem.W.nsIn K mainGlobals "is_version" = some (some (.ref f6))) (l6 : K.lookup f6 = some ⟨oc6, od6, .func (PySem.W.fnOf "is_version" "is_version" (defArgs s_is_version) (defBody s_is_version) (defScope s_is_version) .none kV6 dc6 pm6 an6 cd6 ct6), sl6⟩) (c6 : PySem.W.codeIn K cd6 "is_version" = true) (k6 : PySem.W.keepIn K (.ref f6) = true)
    (a7 : PySem.W.nsIn K mainGlobals "release_names" = some (some (.ref f7))) (l7 : K.lookup f7 = some ⟨oc7, od7, .func (PySem.W.fnOf "release_names" "release_names" (defArgs s_release_names) (defBody s_release_names) (defScope s_release_names) .none kV7 dc7 pm7 an7 cd7 ct7), sl7⟩) (c7 : PySem.W.codeIn K cd7 "release_names" = true) (k7 : PySem.W.keepIn K (.ref f7) = true)
    (a8 : PySem.W.nsIn K mainGlobals "_law_deck" = some (some (.ref f8))) (l8 : K.lookup f8 = some ⟨oc8, od8, .func (PySem.W.fnOf "_law_deck" "_law_deck" (defArgs s_deck) (defBody s_deck) (defScope s_deck) .none kV8 dc8 pm8 an8 cd8 ct8), sl8⟩) (c8 : PySem.W.codeIn K cd8 "_law_deck" = true) (k8 : PySem.W.keepIn K (.ref f8) = true)
    (a9 : PySem.W.nsIn K mainGlobals "_law_draw" = some (some (.ref f9))) (l9 : K.lookup f9 = some ⟨oc9, od9, .func (PySem.W.fnOf "_law_draw" "_law_draw" (defArgs s_draw) (defBody s_draw) (defScope s_draw) .none kV9 dc9 pm9 an9 cd9 ct9), sl9⟩) (c9 : PySem.W.codeIn K cd9 "_law_draw" = true) (k9 : PySem.W.keepIn K (.ref f9) = true)
    (a10 : PySem.W.nsIn K mainGlobals "_law_any" = some (some (.ref f10))) (l10 : K.lookup f10 = some ⟨oc10, od10, .func (PySem.W.fnOf "_law_any" "_law_any" (defArgs s_any) (defBody s_any) (defScope s_any) .none kV10 dc10 pm10 an10 cd10 ct10), sl10⟩) (c10 : PySem.W.codeIn K cd10 "_law_any" = true) (k10 : PySem.W.keepIn K (.ref f10) = true)
    (a11 : PySem.W.nsIn K mainGlobals "_law_turned" = some (some (.ref f11))) (l11 : K.lookup f11 = some ⟨oc11, od11, .func (PySem.W.fnOf "_law_turned" "_law_turned" (defArgs s_turned) (defBody s_turned) (defScope s_turned) .none kV11 dc11 pm11 an11 cd11 ct11), sl11⟩) (c11 : PySem.W.codeIn K cd11 "_law_turned" = true) (k11 : PySem.W.keepIn K (.ref f11) = true)
    (a12 : PySem.W.nsIn K mainGlobals "_law_names" = some (some (.ref f12))) (l12 : K.lookup f12 = some ⟨oc12, od12, .func (PySem.W.fnOf "_law_names" "_law_names" (defArgs s_names) (defBody s_names) (defScope s_names) .none kV12 dc12 pm12 an12 cd12 ct12), sl12⟩) (c12 : PySem.W.codeIn K cd12 "_law_names" = true) (k12 : PySem.W.keepIn K (.ref f12) = true)
    (a13 : PySem.W.nsIn K mainGlobals "_law_chain" = some (some (.ref f13))) (l13 : K.lookup f13 = some ⟨oc13, od13, .func (PySem.W.fnOf "_law_chain" "_law_chain" (defArgs s_chain) (defBody s_chain) (defScope s_chain) .none kV13 dc13 pm13 an13 cd13 ct13), sl13⟩) (c13 : PySem.W.codeIn K cd13 "_law_chain" = true) (k13 : PySem.W.keepIn K (.ref f13) = true)
    (a14 : PySem.W.nsIn K mainGlobals "_law_catalog" = some (some (.ref f14))) (l14 : K.lookup f14 = some ⟨oc14, od14, .func (PySem.W.fnOf "_law_catalog" "_law_catalog" (defArgs s_catalog) (defBody s_catalog) (defScope s_catalog) .none kV14 dc14 pm14 an14 cd14 ct14), sl14⟩) (c14 : PySem.W.codeIn K cd14 "_law_catalog" = true) (k14 : PySem.W.keepIn K (.ref f14) = true)
    (a15 : PySem.W.nsIn K mainGlobals "_law_odd" = some (some (.ref f15))) (l15 : K.lookup f15 = some ⟨oc15, od15, .func (PySem.W.fnOf "_law_odd" "_law_odd" (defArgs s_odd) (defBody s_odd) (defScope s_odd) .none kV15 dc15 pm15 an15 cd15 ct15), sl15⟩) (c15 : PySem.W.codeIn K cd15 "_law_odd" = true) (k15 : PySem.W.keepIn K (.ref f15) = true)
    (a16 : PySem.W.nsIn K mainGlobals "_law_bent" = some (some (.ref f16))) (l16 : K.lookup f16 = some ⟨oc16, od16, .func (PySem.W.fnOf "_law_bent" "_law_bent" (defArgs s_bent) (defBody s_bent) (defScope s_bent) .none kV16 dc16 pm16 an16 cd16 ct16), sl16⟩) (c16 : PySem.W.codeIn K cd16 "_law_bent" = true) (k16 : PySem.W.keepIn K (.ref f16) = true)
    (a17 : PySem.W.nsIn K mainGlobals "_law_is_number" = some (some (.ref f17))) (l17 : K.lookup f17 = some ⟨oc17, od17, .func (PySem.W.fnOf "_law_is_number" "_law_is_number" (defArgs s_is_number) (defBody s_is_number) (defScope s_is_number) .none kV17 dc17 pm17 an17 cd17 ct17), sl17⟩) (c17 : PySem.W.codeIn K cd17 "_law_is_number" = true) (k17 : PySem.W.keepIn K (.ref f17) = true)
    (a18 : PySem.W.nsIn K mainGlobals "_law_is_word" = some (some (.ref f18))) (l18 : K.lookup f18 = some ⟨oc18, od18, .func (PySem.W.fnOf "_law_is_word" "_law_is_word" (defArgs s_is_word) (defBody s_is_word) (defScope s_is_word) .none kV18 dc18 pm18 an18 cd18 ct18), sl18⟩) (c18 : PySem.W.codeIn K cd18 "_law_is_word" = true) (k18 : PySem.W.keepIn K (.ref f18) = true)
    (a19 : PySem.W.nsIn K mainGlobals "_law_rises" = some (some (.ref f19))) (l19 : K.lookup f19 = some ⟨oc19, od19, .func (PySem.W.fnOf "_law_rises" "_law_rises" (defArgs s_rises) (defBody s_rises) (defScope s_rises) .none kV19 dc19 pm19 an19 cd19 ct19), sl19⟩) (c19 : PySem.W.codeIn K cd19 "_law_rises" = true) (k19 : PySem.W.keepIn K (.ref f19) = true)
    (a20 : PySem.W.nsIn K mainGlobals "_law_is_row" = some (some (.ref f20))) (l20 : K.lookup f20 = some ⟨oc20, od20, .func (PySem.W.fnOf "_law_is_row" "_law_is_row" (defArgs s_is_row) (defBody s_is_row) (defScope s_is_row) .none kV20 dc20 pm20 an20 cd20 ct20), sl20⟩) (c20 : PySem.W.codeIn K cd20 "_law_is_row" = true) (k20 : PySem.W.keepIn K (.ref f20) = true)
    (a21 : PySem.W.nsIn K mainGlobals "_law_are_rows" = some (some (.ref f21))) (l21 : K.lookup f21 = some ⟨oc21, od21, .func (PySem.W.fnOf "_law_are_rows" "_law_are_rows" (defArgs s_are_rows) (defBody s_are_rows) (defScope s_are_rows) .none kV21 dc21 pm21 an21 cd21 ct21), sl21⟩) (c21 : PySem.W.codeIn K cd21 "_law_are_rows" = true) (k21 : PySem.W.keepIn K (.ref f21) = true)
    (a22 : PySem.W.nsIn K mainGlobals "_law_value_right" = some (some (.ref f22))) (l22 : K.lookup f22 = some ⟨oc22, od22, .func (PySem.W.fnOf "_law_value_right" "_law_value_right" (defArgs s_value_right) (defBody s_value_right) (defScope s_value_right) .none kV22 dc22 pm22 an22 cd22 ct22), sl22⟩) (c22 : PySem.W.codeIn K cd22 "_law_value_right" = true) (k22 : PySem.W.keepIn K (.ref f22) = true)
    (a23 : PySem.W.nsIn K mainGlobals "_law_right" = some (some (.ref f23))) (l23 : K.lookup f23 = some ⟨oc23, od23, .func (PySem.W.fnOf "_law_right" "_law_right" (defArgs s_right) (defBody s_right) (defScope s_right) .none kV23 dc23 pm23 an23 cd23 ct23), sl23⟩) (c23 : PySem.W.codeIn K cd23 "_law_right" = true) (k23 : PySem.W.keepIn K (.ref f23) = true)
    (a24 : PySem.W.nsIn K mainGlobals "law" = some (some (.ref f24))) (l24 : K.lookup f24 = some ⟨oc24, od24, .func (PySem.W.fnOf "law" "law" (defArgs s_law) (defBody s_law) (defScope s_law) .none kV24 dc24 pm24 an24 cd24 ct24), sl24⟩) (c24 : PySem.W.codeIn K cd24 "law" = true) (k24 : PySem.W.keepIn K (.ref f24) = true)
    (z0 : PySem.W.nsIn K mainGlobals "set" = some none) (z1 : PySem.W.nsIn K mainGlobals "bool" = some none) (z2 : PySem.W.nsIn K mainGlobals "all" = some none) (z3 : PySem.W.nsIn K mainGlobals "zip" = some none) (z4 : PySem.W.nsIn K mainGlobals "isinstance" = some none) (z5 : PySem.W.nsIn K mainGlobals "str" = some none) (z6 : PySem.W.nsIn K mainGlobals "tuple" = some none) (z7 : PySem.W.nsIn K mainGlobals "int" = some none) (z8 : PySem.W.nsIn K mainGlobals "len" = some none) (z9 : PySem.W.nsIn K mainGlobals "range" = some none) (z10 : PySem.W.nsIn K mainGlobals "enumerate" = some none) (z11 : PySem.W.nsIn K mainGlobals "abs" = some none) (z12 : PySem.W.nsIn K mainGlobals "sorted" = some none) (z13 : PySem.W.nsIn K mainGlobals "list" = some none) (z14 : PySem.W.nsIn K mainGlobals "repr" = some none) (z15 : PySem.W.nsIn K mainGlobals "min" = some none) (z16 : PySem.W.nsIn K mainGlobals "max" = some none)
    (m1 : PySem.W.nsIn K mainGlobals "MOST_LETTERS" = some (some (.int 8 t1))) (m2 : PySem.W.nsIn K mainGlobals "MOST_VERSIONS" = some (some (.int 8 t2))) (m3 : PySem.W.nsIn K mainGlobals "HIGHEST_VERSION" = some (some (.int 1000000000 t3))) (m4 : PySem.W.nsIn K mainGlobals "MOST_RELEASES" = some (some (.int 12 t4))) :
    ∃ fd : FuncData, (∀ (s : Shared) (v : Value), BindsTo s fd ⟨[v], []⟩ [("_law_script", v)]) ∧ ∀ base : Heap, K.In base → base.Ns mainGlobals mg → FnG l.prog w K mg base CX0 9 fa fd ["_law_script"] (spLaw K) := by
  have e := hfa.symm.trans (PySem.W.mg_of X G a24)
  cases e
  have B : Bs mg t1 t2 t3 t4 := ⟨PySem.W.mg_none_of X G z0, PySem.W.mg_none_of X G z1, PySem.W.mg_none_of X G z2, PySem.W.mg_none_of X G z3, PySem.W.mg_none_of X G z4, PySem.W.mg_none_of X G z5, PySem.W.mg_none_of X G z6, PySem.W.mg_none_of X G z7, PySem.W.mg_none_of X G z8, PySem.W.mg_none_of X G z9, PySem.W.mg_none_of X G z10, PySem.W.mg_none_of X G z11, PySem.W.mg_none_of X G z12, PySem.W.mg_none_of X G z13, PySem.W.mg_none_of X G z14, PySem.W.mg_none_of X G z15, PySem.W.mg_none_of X G z16, PySem.W.mg_of X G m1, PySem.W.mg_of X G m2, PySem.W.mg_of X G m3, PySem.W.mg_of X G m4⟩
  have Dis_integer := defd X G a0 l0 c0 k0
  have Dis_ascending := defd X G a1 l1 c1 k1
  have Dis_name := defd X G a2 l2 c2 k2
  have Dis_release := defd X G a3 l3 c3 k3
  have Dis_catalog := defd X G a4 l4 c4 k4
  have Dare_versions := defd X G a5 l5 c5 k5
  have Dis_version := defd X G a6 l6 c6 k6
  have Drelease_names := defd X G a7 l7 c7 k7
  have D_law_deck := defd X G a8 l8 c8 k8
  have D_law_draw := defd X G a9 l9 c9 k9
  have D_law_any := defd X G a10 l10 c10 k10
  have D_law_turned := defd X G a11 l11 c11 k11
  have D_law_names := defd X G a12 l12 c12 k12
  have D_law_chain := defd X G a13 l13 c13 k13
  have D_law_catalog := defd X G a14 l14 c14 k14
  have D_law_odd := defd X G a15 l15 c15 k15
  have D_law_bent := defd X G a16 l16 c16 k16
  have D_law_is_number := defd X G a17 l17 c17 k17
  have D_law_is_word := defd X G a18 l18 c18 k18
  have D_law_rises := defd X G a19 l19 c19 k19
  have D_law_is_row := defd X G a20 l20 c20 k20
  have D_law_are_rows := defd X G a21 l21 c21 k21
  have D_law_value_right := defd X G a22 l22 c22 k22
  have D_law_right := defd X G a23 l23 c23 k23
  refine ⟨PySem.W.fnOf "law" "law" (defArgs s_law) (defBody s_law) (defScope s_law) .none kV24 dc24 pm24 an24 cd24 ct24, fun s v => .of_eq rfl, fun base _ _ => ?_⟩
  have c_asc := ok_is_ascending (P := l.prog) (w := w) (base := base) B Dis_ascending
  have c_name := ok_is_name (P := l.prog) (w := w) (base := base) B Dis_name
  have c_integer := ok_is_integer (P := l.prog) (w := w) (base := base) B Dis_integer
  have c_version := ok_is_version B Dis_version c_integer
  have c_versions := ok_are_versions B Dare_versions c_version c_asc
  have c_release := ok_is_release B Dis_release c_name c_versions
  have c_relnames := ok_release_names (P := l.prog) (w := w) (base := base) B Drelease_names
  have c_catalog := ok_is_catalog B Dis_catalog c_release c_relnames c_asc
  have c_deck := ok_deck (P := l.prog) (w := w) (base := base) B D_law_deck
  have c_draw := ok_draw (P := l.prog) (w := w) (base := base) B D_law_draw
  have c_any := ok_any B D_law_any c_draw
  have c_turned := ok_turned B D_law_turned c_draw
  have c_names := ok_names B D_law_names c_draw c_any
  have c_chain := ok_chain B D_law_chain c_draw c_any c_turned c_names
  have c_cat := ok_catalog B D_law_catalog c_draw c_any c_names
  have c_odd := ok_odd B D_law_odd c_any
  have c_bent := ok_bent B D_law_bent c_draw c_odd 3
  have c_number := ok_is_number (P := l.prog) (w := w) (base := base) B D_law_is_number
  have c_word := ok_is_word (P := l.prog) (w := w) (base := base) B D_law_is_word
  have c_rises := ok_rises (P := l.prog) (w := w) (base := base) B D_law_rises
  have c_row := ok_is_row B D_law_is_row c_word c_number c_rises
  have c_rows := ok_are_rows B D_law_are_rows c_row c_rises
  have c_value := ok_value_right B D_law_value_right c_word c_row c_rows c_name c_release c_catalog
  have c_right := ok_right B D_law_right c_draw c_any c_cat c_chain c_bent c_value
  exact ok_law B (fun_mk (st := s_law) l24 c24 k24) c_deck c_right
end K1
end

section
set_option maxRecDepth 100000
open PySem PySem.W PyProof.Rows
set_option maxHeartbeats 0 in
theorem PySem.Challenge.cw_gridupgrade_k01_catalogs_of_any_value_holds : PySem.Challenge.rw_gridupgrade_k01_catalogs_of_any_value.Holds := by
  w_on; o_law; k_head; (case hw => w_witness2)
  k_fill
  refine Gd.walkG (l := PySem.Challenge.rw_gridupgrade_k01_catalogs_of_any_value) (n := 63) (k := 9) (x := "_law_script") (sp := K1.spLaw) rfl (by decide) rfl ⟨rfl, by decide, by decide⟩ (fun w h Y => PySem.W.kIn_of Y) ?F (fun _ _ a ns hl _ hS => ⟨a, ns, rfl, hS, hl, fun _ => rfl⟩)
  case F =>
    intro w mg fa h KX G hmg
    refine' K1.all_mk KX G hmg ?a0 ?l0 ?c0 ?k0 ?a1 ?l1 ?c1 ?k1 ?a2 ?l2 ?c2 ?k2 ?a3 ?l3 ?c3 ?k3 ?a4 ?l4 ?c4 ?k4 ?a5 ?l5 ?c5 ?k5 ?a6 ?l6 ?c6 ?k6 ?a7 ?l7 ?c7 ?k7 ?a8 ?l8 ?c8 ?k8 ?a9 ?l9 ?c9 ?k9 ?a10 ?l10 ?c10 ?k10 ?a11 ?l11 ?c11 ?k11 ?a12 ?l12 ?c12 ?k12 ?a13 ?l13 ?c13 ?k13 ?a14 ?l14 ?c14 ?k14 ?a15 ?l15 ?c15 ?k15 ?a16 ?l16 ?c16 ?k16 ?a17 ?l17 ?c17 ?k17 ?a18 ?l18 ?c18 ?k18 ?a19 ?l19 ?c19 ?k19 ?a20 ?l20 ?c20 ?k20 ?a21 ?l21 ?c21 ?k21 ?a22 ?l22 ?c22 ?k22 ?a23 ?l23 ?c23 ?k23 ?a24 ?l24 ?c24 ?k24 ?z0 ?z1 ?z2 ?z3 ?z4 ?z5 ?z6 ?z7 ?z8 ?z9 ?z10 ?z11 ?z12 ?z13 ?z14 ?z15 ?z16 ?m1 ?m2 ?m3 ?m4
    (case a0 => k_is)
    (case l0 => k_is)
    (case c0 => k_is)
    (case k0 => k_is)
    (case a1 => k_is)
    (case l1 => k_is)
    (case c1 => k_is)
    (case k1 => k_is)
    (case a2 => k_is)
    (case l2 => k_is)
    (case c2 => k_is)
    (case k2 => k_is)
    (case a3 => k_is)
    (case l3 => k_is)
    (case c3 => k_is)
    (case k3 => k_is)
    (case a4 => k_is)
    (case l4 => k_is)
    (case c4 => k_is)
    (case k4 => k_is)
    (case a5 => k_is)
    (case l5 => k_is)
    (case c5 => k_is)
    (case k5 => k_is)
    (case a6 => k_is)
    (case l6 => k_is)
    (case c6 => k_is)
    (case k6 => k_is)
    (case a7 => k_is)
    (case l7 => k_is)
    (case c7 => k_is)
    (case k7 => k_is)
    (case a8 => k_is)
    (case l8 => k_is)
    (case c8 => k_is)
    (case k8 => k_is)
    (case a9 => k_is)
    (case l9 => k_is)
    (case c9 => k_is)
    (case k9 => k_is)
    (case a10 => k_is)
    (case l10 => k_is)
    (case c10 => k_is)
    (case k10 => k_is)
    (case a11 => k_is)
    (case l11 => k_is)
    (case c11 => k_is)
    (case k11 => k_is)
    (case a12 => k_is)
    (case l12 => k_is)
    (case c12 => k_is)
    (case k12 => k_is)
    (case a13 => k_is)
    (case l13 => k_is)
    (case c13 => k_is)
    (case k13 => k_is)
    (case a14 => k_is)
    (case l14 => k_is)
    (case c14 => k_is)
    (case k14 => k_is)
    (case a15 => k_is)
    (case l15 => k_is)
    (case c15 => k_is)
    (case k15 => k_is)
    (case a16 => k_is)
    (case l16 => k_is)
    (case c16 => k_is)
    (case k16 => k_is)
    (case a17 => k_is)
    (case l17 => k_is)
    (case c17 => k_is)
    (case k17 => k_is)
    (case a18 => k_is)
    (case l18 => k_is)
    (case c18 => k_is)
    (case k18 => k_is)
    (case a19 => k_is)
    (case l19 => k_is)
    (case c19 => k_is)
    (case k19 => k_is)
    (case a20 => k_is)
    (case l20 => k_is)
    (case c20 => k_is)
    (case k20 => k_is)
    (case a21 => k_is)
    (case l21 => k_is)
    (case c21 => k_is)
    (case k21 => k_is)
    (case a22 => k_is)
    (case l22 => k_is)
    (case c22 => k_is)
    (case k22 => k_is)
    (case a23 => k_is)
    (case l23 => k_is)
    (case c23 => k_is)
    (case k23 => k_is)
    (case a24 => k_is)
    (case l24 => k_is)
    (case c24 => k_is)
    (case k24 => k_is)
    (case z0 => k_is)
    (case z1 => k_is)
    (case z2 => k_is)
    (case z3 => k_is)
    (case z4 => k_is)
    (case z5 => k_is)
    (case z6 => k_is)
    (case z7 => k_is)
    (case z8 => k_is)
    (case z9 => k_is)
    (case z10 => k_is)
    (case z11 => k_is)
    (case z12 => k_is)
    (case z13 => k_is)
    (case z14 => k_is)
    (case z15 => k_is)
    (case z16 => k_is)
    (case m1 => k_is)
    (case m2 => k_is)
    (case m3 => k_is)
    (case m4 => k_is)
end

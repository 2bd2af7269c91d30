import PyProof.Rows.All
import Wide.All
import OpenK.AllK
import Wide.FinOn
import HandS.ForMost
import HandS.WideBits
import HandS.Flow
import HandS.Exc
import KE.KExcInit
import HandS.ExcInit
import HandS.ExcIs
import HandS.IsInst
import HandS.Star
import HandS.Walk
import HandS.FStr
import HandS.Property
import HandS.ClsMeth
import OpenK.KOps
import PyProof.InstNe
import PyProof.ReprHeadsEmpty
import HandS.SortOrd
import HandS.TupLe
import HandS.Set
import HandS.SetFor
import HandS.Strs
import HandS.SortRule
import PyProof.ReprHeadsTuple
import KE.GoesMore
import HandS.Deep
import KE.GoesEnum
import HandS.TryMany
import HandS.WordsExc
import HandS.ExcValue
import HandS.Lambda
import HandS.HeadHook4
import PySem.Challenge.RW_twoeach_k13_kinds_refused
import HandS.StrMore
import HandS.Text
import HandS.Style
import HandS.Head0
import HandS.Head1
import HandS.Head2
import HandS.HeadEnd
import HandS.HeadHook1
import HandS.HeadHook2
import HandS.EndTab
import HandS.TupMul
import KE.KDictDisplayH
set_option Elab.async false
set_option linter.all false
set_option maxRecDepth 100000
namespace Lay
open PySem L2 PySem.Spec PyProof.Rows
/-! ### a def's promise where it is known that no text of an object is being made (for repr) -/
structure FnG (P : Program) (w : World) (K : PySem.W.Frag) (mg : Str → Option Value) (base : Heap) (CX : CXT) (k : Nat) (f : Addr) (fd : FuncData)
    (ps : List Str) (sp : Sp) : Prop where
  len : ∀ vs H Q E, sp vs H Q E → vs.length = ps.length
  run : ∀ (A : Around) (outer : List Env) (s : Shared) (H : Hp) (args : Args) (us : List Value) (vs : List V) (Q : VK) (E : XK),
    Room k A → A.guards = some [] → Env0 P w K mg base A outer s H → BindsTo s fd args (ps.zip us) → Vals vs us → sp vs H Q E →
    codeAny (model P w) A (.call (.ref f) args) (CR CX outer P w H s Q E) s
section
variable {CX : CXT} {P : Program} {w : World} {K : PySem.W.Frag} {mg : Str → Option Value} {base : Heap} {k : Nat} {f : Addr} {fd : FuncData} {ps : List Str} {sp sp' : Sp}
theorem FnG.of (F : FnOk P w K mg base CX k f fd ps sp) : FnG P w K mg base CX k f fd ps sp :=
  ⟨F.len, fun A outer s H args us vs Q E hr _ => F.run A outer s H args us vs Q E hr⟩
theorem FnG.imp (F : FnG P w K mg base CX k f fd ps sp) (h : ∀ vs H Q E, sp' vs H Q E → sp vs H Q E) : FnG P w K mg base CX k f fd ps sp' :=
  ⟨fun vs H Q E z => F.len vs H Q E (h _ _ _ _ z), fun A outer s H args us vs Q E hr hg he hb hv z => F.run A outer s H args us vs Q E hr hg he hb hv (h _ _ _ _ z)⟩
theorem FnG.mono {j : Nat} (F : FnG P w K mg base CX j f fd ps sp) (h : j ≤ k) : FnG P w K mg base CX k f fd ps sp :=
  ⟨F.len, fun A outer s H args us vs Q E hr => F.run A outer s H args us vs Q E (hr.mono h)⟩
/-- a def of the text, by its body -/
theorem fnG_of {name qual : Str} {params : Arguments} {body : List Stmt} {scope : Scope} {dV kV doc pm cdv ct oc : Value} {an od : Option Addr}
    {osl : Array (Option Value)} {N : List Str} (lk : K.lookup f = some ⟨oc, od, .func (PySem.W.fnOf name qual params body scope dV kV doc pm an cdv ct), osl⟩)
    (hcd : PySem.W.codeIn K cdv qual = true) (S : FnScope N ps scope) (len : ∀ vs H Q E, sp vs H Q E → vs.length = ps.length)
    (hbody : ∀ (A : Around) (outer : List Env) (s : Shared) (H : Hp) (vs : List V) (Q : VK) (E : XK), Room k (A.deeper (envOfC qual scope s.heap.objs.size f cdv)) →
      A.guards = some [] → sp vs H Q E →
      ∃ t, PSs (cxOf CX P w K mg base N qual scope f cdv A outer s H E) body t ∧ t { nx := fun _ H' => Q .non H', rt := Q } (start N vs) H) :
    FnG P w K mg base CX (k + 1) f (PySem.W.fnOf name qual params body scope dV kV doc pm an cdv ct) ps sp := by
  refine ⟨len, fun A outer s H args us vs Q E hr hg e0 hb r hsp => ?_⟩
  have hl := len _ _ _ _ hsp
  have kx : K.In s.heap := e0.mod.kin.keeps fun b o e => (e0.bs b o e).1
  have nl : s.heap.NoLimit := e0.mod.nolimit.keeps fun b o e => (e0.bs b o e).1
  have kinds : ∀ y ∈ ps.zip us, scope.names.lookup y.1 = some .local ∨
      (scope.names.lookup y.1 = some .cell ∧ ((cellsFrom (s.heap.objs.size + 1) scope.names []).lookup y.1).isSome = true) := fun ⟨n, v⟩ hy => by
    rcases S.par n (List.of_mem_zip hy).1 with q | q
    · exact .inl q
    · exact .inr ⟨q, PySem.W.cellsFrom_some _ _ _ (.inl q)⟩
  refine codeAny_call_function hr.depth (kx _ _ lk) rfl S.co S.gen rfl (PySem.W.codeRec_of kx hcd) (hb _ _ _ _ ?_)
  refine wpAny_newFunctionEnv_cells S.kind kinds fun env he s1 x => ?_
  subst he
  refine ⟨nl.keeps x.toInCall.keep, codeAny_func ?_⟩
  obtain ⟨t, ht, hq⟩ := hbody A outer s H vs Q E (hr.deeper _) hg hsp
  have I : Inv (cxOf CX P w K mg base N qual scope f cdv A outer s H E) [] (start N vs) H s1 := inv_start S hr.hd e0 hl r x
  refine wpAny_mono (ht.run [] s1 (start N vs) H _ I hq) (fun fl s' hs => ?_) fun e s' hs => hs
  cases fl with
  | ret u =>
    obtain ⟨v, σ', H', J, rv, q⟩ := hs
    exact ⟨v, H', J.os, J.bare, J.base, J.hok, rv, q⟩
  | next =>
    obtain ⟨σ', H', J, q⟩ := hs
    exact ⟨V.non, H', J.os, J.bare, J.base, J.hok, rfl, q⟩
  | brk =>
    obtain ⟨_, _, _, q⟩ := hs
    exact False.elim q
  | cont =>
    obtain ⟨_, _, _, q⟩ := hs
    exact False.elim q
end
theorem okG {P : Program} {w : World} {K : PySem.W.Frag} {mg : Str → Option Value} {base : Heap} {x qual : Str} {st : Stmt} {f : Addr} {fd : FuncData} {N ps : List Str} {k : Nat} {sp : Sp}
    (F : Fun K x qual st f fd) (S : FnScope N ps (defScope st)) (len : ∀ vs H Q E, sp vs H Q E → vs.length = ps.length)
    (hbody : ∀ (cdv : Value) (A : Around) (outer : List Env) (s : Shared) (H : Hp) (vs : List V) (Q : VK) (E : XK),
      Room k (A.deeper (envOfC qual (defScope st) s.heap.objs.size f cdv)) → A.guards = some [] → sp vs H Q E →
      ∃ t, PSs (cxOf CX0 P w K mg base N qual (defScope st) f cdv A outer s H E).nox (defBody st) t ∧ t { nx := fun _ H' => Q .non H', rt := Q } (start N vs) H) :
    FnG P w K mg base CX0 (k + 1) f fd ps sp := by
  obtain ⟨oc, od, kV, doc, pm, an, cdv, ct, osl, rfl, lk, hcd⟩ := F.ex
  refine fnG_of lk hcd S len fun A outer s H vs Q E hr hg hsp => ?_
  obtain ⟨t, h, q⟩ := hbody cdv A outer s H vs Q E hr hg hsp
  exact ⟨t, h.nox, q⟩
section
variable {X : Cx} {k : Nat} {f : Addr} {fd : FuncData} {ps ks : List Str} {sp : Sp} {pins : List (Addr × Obj)} {σ : L2.St} {H : Hp} {s : Shared} {Q : VK} {us ws : List Value} {vs zs : List V}
theorem run_G {args : Args} {us' : List Value} {vs' : List V} (F : FnG X.prog X.w X.K X.mg X.base CX0 k f fd ps sp) (hr : Room k X.A) (hg : X.A.guards = some []) (I : Inv X pins σ H s)
    (hb : BindsTo s fd args (ps.zip us')) (r : Vals vs' us') (h : sp vs' H Q E0) : codeAny (model X.prog X.w) X.A (.call (.ref f) args)
      (fun r s' => match r with | .ok (.ret v) => EP X pins σ Q v s' | .ok _ => False | .error x => X.xe x s') s := by
  refine codeAny_mono (F.run X.A X.stack s H args us' vs' Q E0 hr hg I.env0 hb r h) fun r s' hq => ?_
  cases r with
  | error e => exact False.elim hq
  | ok fl =>
    cases fl with
    | ret u => exact I.after hq
    | next => exact False.elim hq
    | brk => exact False.elim hq
    | cont => exact False.elim hq
end

/-! ### the end of a law row -/
theorem law_callG {P : Program} {w : World} {K : PySem.W.Frag} {mg mb : Str → Option Value} {k : Nat} {fa a : Addr} {fd : FuncData} {x : Str} {sp : Sp} {s1 : Shared} {vs : List Value} {ns : List Int}
    (KX : K.In s1.heap) (hns : s1.heap.Ns mainGlobals mg) (hb : s1.heap.Ns builtinsNs mb) (hbb : ∀ x : Str, x ≠ "__name__" → mb x = bootBuiltins x)
    (hlim : s1.heap.NoLimit) (hg : s1.gens = #[]) (ha : s1.heap.get? a = some { cls := .type "list", data := .seq vs.toArray }) (hi : IntsAre vs ns)
    (hl : ns.length ≤ sizeLine) (hr : Room k callerA) (F : ∀ base : Heap, K.In base → base.Ns mainGlobals mg → FnG P w K mg base CX0 k fa fd [x] sp)
    (hbind : ∀ (s : Shared) (u : Value), BindsTo s fd ⟨[u], []⟩ [(x, u)])
    (hsp : ∀ H : Hp, Only H → SqL K H a (ns.map V.int) → sp [.ref a] H (fun v _ => v = .bl true) fun _ _ _ => False) :
    codeAny (model P w) callerA (.call (.ref fa) ⟨[.ref a], []⟩)
      (fun r s' => r = .ok (.ret (.bool true)) ∧ OldK s1.heap s'.heap ∧ s'.os = s1.os ∧ AllBare s'.gens) s1 := by
  have rv := vals_ints hi
  have lenV := hi.length
  have core : ∀ H : Hp, Only H → SqL K H a (ns.map V.int) → HOk P w H s1.heap → (∀ b, H b ≠ none → b = a) → (H a ≠ none → K.lookup a = none) →
      codeAny (model P w) callerA (.call (.ref fa) ⟨[.ref a], []⟩)
        (fun r s' => r = .ok (.ret (.bool true)) ∧ OldK s1.heap s'.heap ∧ s'.os = s1.os ∧ AllBare s'.gens) s1 := by
    intro H hO hS hok hA hK
    have bo : ∀ {b : Addr} {o : Obj}, s1.heap.get? b = some o → H b = none → (hidT s1.heap H).get? b = some o := fun e n => hidT_get e n
    have na : ∀ {b : Addr} {o : Obj} {es : Array DictEntry} {ep : Nat}, s1.heap.get? b = some o → o.data = .dict es ep → H b = none := by
      intro b o es ep e d
      cases q : H b with
      | none => rfl
      | some u =>
        have e' : b = a := hA b (by rw [q]; simp)
        subst e'
        rw [ha] at e; cases e
        have d' : Data.seq vs.toArray _ = Data.dict es ep := d
        cases d'
    have nsK : ∀ {b : Addr} {m : Str → Option Value}, s1.heap.Ns b m → (hidT s1.heap H).Ns b m := by
      intro b m ⟨o, es, ep, e, d, r⟩
      exact ⟨o, es, ep, bo e (na e d), d, r⟩
    have kb : K.In (hidT s1.heap H) := by
      intro b o e
      refine bo (KX b o e) ?_
      cases q : H b with
      | none => rfl
      | some u =>
        have e' : b = a := hA b (by rw [q]; simp)
        subst e'
        rw [hK (by rw [q]; simp)] at e; cases e
    have hM : Mod K mg (hidT s1.heap H) := by
      obtain ⟨mc, h1, h2⟩ := hlim
      exact ⟨kb, nsK hns, ⟨mb, nsK hb, hbb⟩, ⟨mc, nsK h1, h2⟩⟩
    have e0 : Env0 P w K mg (hidT s1.heap H) callerA [] s1 H :=
      ⟨rfl, hM, fun b o e => of_hidT e, Nat.le_of_eq (hidT_size _ _), trivial, fun b hb => absurd (show b ∈ ([] : List Addr) from hb) (by simp), hok, .of_eq hg⟩
    refine codeAny_mono ((F _ kb (nsK hns)).run callerA [] s1 H ⟨[.ref a], []⟩ [.ref a] [.ref a] _ _ hr rfl e0 (hbind s1 (.ref a)) (.cons rfl .nil) (hsp H hO hS)) fun r s' h => ?_
    cases r with
    | error e => exact h.elim
    | ok fl =>
      cases fl with
      | next => exact False.elim h
      | brk => exact False.elim h
      | cont => exact False.elim h
      | ret u =>
        obtain ⟨v, H', os, bare, un, hok', r', q⟩ := h
        have q' : v = .bl true := q
        subst q'
        obtain rfl : u = Value.bool true := r'
        refine ⟨rfl, OldK.of_keep fun b o e => ?_, os, bare⟩
        cases q : H b with
        | none => exact un.keep b o e q (fun z => nomatch (show b ∈ ([] : List Addr) from z)) (by simp)
        | some u =>
          rcases hO b with z | ⟨ob, xs, z⟩
          · rw [q] at z; cases z
          · obtain ⟨e1, _⟩ := hok b _ z
            obtain ⟨e2, _⟩ := hok' b _ (un.frzs b ob _ z)
            rw [e] at e1; cases e1
            exact e2
  cases hk : K.lookup a with
  | some o =>
    have e := KX a o hk
    rw [ha] at e
    cases e
    exact core (fun _ => none) (fun _ => .inl rfl) (.inr ⟨_, vs.toArray, _, hk, rfl, rfl, rfl, by rw [List.size_toArray, lenV]; exact hl, by simpa using rv⟩)
      (fun b u z => by cases (show (none : Option HO) = some u from z)) (fun b z => absurd rfl z) fun z => absurd rfl z
  | none =>
    refine core (fun b => if b = a then some (.frz { cls := .type "list", data := .seq vs.toArray } (.lst (ns.map V.int))) else none)
      (fun b => ?_) (.inl (.inr ⟨{ cls := .type "list", data := .seq vs.toArray }, if_pos rfl⟩)) (fun b u z => ?_) (fun b z => ?_) fun _ => hk
    · by_cases hb : b = a
      · exact .inr ⟨_, _, if_pos hb⟩
      · exact .inl (if_neg hb)
    · by_cases hb : b = a
      · cases (if_pos hb).symm.trans z
        subst hb
        exact ⟨ha, by rw [List.length_map]; exact hl, vs, _, rv, ha⟩
      · cases (if_neg hb).symm.trans z
    · by_cases hb : b = a
      · exact hb
      · exact absurd (if_neg hb) z
theorem walk_G {l : PySem.W.OpenLaw} {n k : Nat} {q : Program} {loose : List Str} {XP : (Str → Option Value) → Heap → Prop} {YP : World → Heap → Prop} {d : DefRec} {K : Params → PySem.W.Frag}
    {sp : PySem.W.Frag → Sp} {x : Str} (hn : l.most = some n) (hn2 : n ≤ sizeLine) (hdf : d.params.defaults = []) (hr : Room k callerA)
    (hY : ∀ (w : World) (h : Heap), YP w h → (K w.params).In h)
    (F : ∀ (w : World) (mg : Str → Option Value) (fa : Addr) (h : Heap), (K w.params).In h → h.Ns mainGlobals mg → mg d.name = some (.ref fa) →
      ∃ fd : FuncData, (∀ (s : Shared) (u : Value), BindsTo s fd ⟨[u], []⟩ [(x, u)]) ∧
        ∀ base : Heap, (K w.params).In base → base.Ns mainGlobals mg → FnG l.prog w (K w.params) mg base CX0 k fa fd [x] (sp (K w.params)))
    (hsp : ∀ (K : PySem.W.Frag) (H : Hp) (a : Addr) (ns : List Int), ns.length ≤ n → Only H → SqL K H a (ns.map V.int) → sp K [.ref a] H (fun v _ => v = .bl true) fun _ _ _ => False) :
    PySem.W.WalkO q loose XP YP l.row.toRowW d [] (fun f vs => PySem.call f vs) := by
  refine Att.attach_call hn hdf fun w s0 s1 mg mb fa o pm cd doc a vs ns G Y ho hd hcd hmg hobj hints hlen hg => ?_
  have KX := hY w _ Y
  obtain ⟨fd, hb, hF⟩ := F w mg fa _ KX G.T.g hmg
  exact law_callG KX G.T.g G.T.b G.T.builtins G.T.nolimit hg hobj hints (Nat.le_trans hlen hn2) hr hF hb fun H hO hS => hsp _ H a ns hlen hO hS
end Lay

set_option Elab.async false
set_option linter.all false
set_option maxRecDepth 100000
set_option maxHeartbeats 4000000
namespace Lay
open PySem L2

/-! ### the same objects, some of them told otherwise -/
structure Alike (H H1 : Hp) : Prop where
  none : ∀ b, H b = Option.none ↔ H1 b = Option.none
  tup : ∀ b xs, H b = some (.tup xs) ↔ H1 b = some (.tup xs)
  frz : ∀ b o u, H b = some (.frz o u) ↔ H1 b = some (.frz o u)
  tbl : ∀ b ps, H b = some (.tbl ps) ↔ H1 b = some (.tbl ps)
theorem Alike.refl {H : Hp} : Alike H H := ⟨fun _ => Iff.rfl, fun _ _ => Iff.rfl, fun _ _ _ => Iff.rfl, fun _ _ => Iff.rfl⟩
/-- no tuple, no locked object, no table, no own dict -/
def plainO : HO → Bool
  | .tup _ => false
  | .frz _ _ => false
  | .tbl _ => false
  | .own _ => false
  | _ => true
theorem Alike.upd {H : Hp} {q : Addr} {o o' : HO} (h : H q = some o) (p : plainO o = true) (p' : plainO o' = true) : Alike H (upd H q o') := by
  refine ⟨fun b => ?_, fun b xs => ?_, fun b o u => ?_, fun b ps => ?_⟩ <;> by_cases e : b = q
  · subst e; rw [upd_same, h]; constructor <;> intro z <;> cases z
  · rw [upd_ne e]
  · subst e; rw [upd_same, h]; constructor <;> intro z <;> cases z <;> first | cases p | cases p'
  · rw [upd_ne e]
  · subst e; rw [upd_same, h]; constructor <;> intro z <;> cases z <;> first | cases p | cases p'
  · rw [upd_ne e]
  · subst e; rw [upd_same, h]; constructor <;> intro z <;> cases z <;> first | cases p | cases p'
  · rw [upd_ne e]
theorem un_alike {fs : List Addr} {H H1 H2 H3 : Hp} {h h' : Heap} (a : Alike H H1) (b : Alike H2 H3) (u : Un fs [] H1 H2 h h') : Un fs [] H H3 h h' where
  keep := fun c o q n hc hx => u.keep c o q ((a.none c).mp n) hc hx
  slot := fun c o q n hc hx => u.slot c o q ((a.none c).mp n) hc hx
  free := fun c o q n hx => (b.none c).mp (u.free c o q ((a.none c).mp n) hx)
  there := fun c o q hx => u.there c o q hx
  tups := fun c xs q => (b.tup c xs).mp (u.tups c xs ((a.tup c xs).mp q))
  frzs := fun c o x q => (b.frz c o x).mp (u.frzs c o x ((a.frz c o x).mp q))
  tbls := fun c ps q => by
    obtain ⟨m, z⟩ := u.tbls c ps ((a.tbl c ps).mp q)
    exact ⟨m, (b.tbl c _).mp z⟩
theorem hok_retell {P : Program} {w : World} {H : Hp} {h : Heap} {q : Addr} {o o' : HO} (x : HOk P w H h) (e : H q = some o) (p : plainO o = true) (new : ObjOk P w (upd H q o') h q o') : HOk P w (upd H q o') h := fun b u eb => by
  by_cases hb : b = q
  · subst hb; rw [upd_same] at eb; cases eb; exact new
  · rw [upd_ne hb] at eb
    refine (x b u eb).stay (fun _ _ _ z => z) (fun c z => ?_) fun c xs z => ?_
    · rw [upd_ne (fun e' => by subst e'; rw [e] at z; cases z; cases p)]; exact z
    · rw [upd_ne (fun e' => by subst e'; rw [e] at z; cases z; cases p)]; exact z
theorem retell {P : Program} {w : World} {K : PySem.W.Frag} {mg : Str → Option Value} {base : Heap} {k : Nat} {f : Addr} {fd : FuncData} {ps : List Str} {sp sp' : Sp} (F : FnG P w K mg base CX0 k f fd ps sp) (hl : ∀ vs H Q E, sp' vs H Q E → vs.length = ps.length)
    (h : ∀ vs H Q E hp, sp' vs H Q E → HOk P w H hp → ∃ H1, Alike H H1 ∧ HOk P w H1 hp ∧ sp vs H1 (fun v H2 => ∀ hp', HOk P w H2 hp' → ∃ H3, Alike H2 H3 ∧ HOk P w H3 hp' ∧ Q v H3) E) : FnG P w K mg base CX0 k f fd ps sp' := by
  refine ⟨hl, fun A outer s H args us vs Q E hr hg e0 hb hv hs => ?_⟩
  obtain ⟨H1, al, ok1, hs1⟩ := h vs H Q E s.heap hs e0.hok
  have e1 : Env0 P w K mg base A outer s H1 := ⟨e0.frames, e0.mod, fun b o e => ⟨(e0.bs b o e).1, (al.none b).mp (e0.bs b o e).2⟩, e0.bsz, e0.funs, fun b hb => (al.none b).mp (e0.frf b hb), ok1, e0.bare⟩
  refine codeAny_mono (F.run A outer s H1 args us vs _ E hr hg e1 hb hv hs1) fun r s' q => ?_
  cases r with
  | error er => exact False.elim q
  | ok fl =>
    cases fl with
    | ret u =>
      obtain ⟨v, H2, os, ba, un, ok2, rv, q2⟩ := q
      obtain ⟨H3, al2, ok3, q3⟩ := q2 s'.heap ok2
      exact ⟨v, H3, os, ba, un_alike al al2 un, ok3, rv, q3⟩
    | next => exact False.elim q
    | brk => exact False.elim q
    | cont => exact False.elim q

/-! ### a def of the text, with all that a call of it needs -/
def Kw1 (fd : FuncData) (ps : List Str) : Prop := ∀ p v, ps = [p] → bindArgs fd ⟨[], [(p, v)]⟩ = pure [(p, v)]
def Src (K : PySem.W.Frag) (mg : Str → Option Value) (x : Str) (st : Stmt) (ps : List Str) : Prop := ∃ f fd, Fun K x x st f fd ∧ mg x = some (.ref f) ∧ Binds K fd ps [] ∧ Kw1 fd ps
def Df (P : Program) (w : World) (K : PySem.W.Frag) (mg : Str → Option Value) (base : Heap) (k : Nat) (x : Str) (ps : List Str) (sp : Sp) : Prop :=
  ∃ f fd, FnG P w K mg base CX0 k f fd ps sp ∧ mg x = some (.ref f) ∧ PySem.W.keepIn K (.ref f) = true ∧ Binds K fd ps [] ∧ Kw1 fd ps
section
variable {P : Program} {w : World} {K : PySem.W.Frag} {mg : Str → Option Value} {base : Heap} {x : Str} {st : Stmt} {N ps : List Str} {sp sp' : Sp} {k j : Nat}
theorem Src.ok (S : Src K mg x st ps) (h : ∀ f fd, Fun K x x st f fd → FnG P w K mg base CX0 k f fd ps sp) : Df P w K mg base k x ps sp := by
  obtain ⟨f, fd, F, g, b⟩ := S
  exact ⟨f, fd, h f fd F, g, F.kp, b⟩
/-- a def, by its body -/
theorem Src.by (S : Src K mg x st ps) (sc : FnScope N ps (defScope st)) (len : ∀ vs H Q E, sp vs H Q E → vs.length = ps.length)
    (hbody : ∀ (f : Addr) (cdv : Value) (A : Around) (outer : List Env) (s : Shared) (H : Hp) (vs : List V) (Q : VK) (E : XK),
      Room k (A.deeper (PyProof.Rows.envOfC x (defScope st) s.heap.objs.size f cdv)) → A.guards = some [] → sp vs H Q E →
      ∃ t, PSs (cxOf CX0 P w K mg base N x (defScope st) f cdv A outer s H E).nox (defBody st) t ∧ t { nx := fun _ H' => Q .non H', rt := Q } (start N vs) H) : Df P w K mg base (k + 1) x ps sp :=
  S.ok fun f fd F => okG F sc len (hbody f)
theorem Df.imp (D : Df P w K mg base k x ps sp) (h : ∀ vs H Q E, sp' vs H Q E → sp vs H Q E) : Df P w K mg base k x ps sp' := by
  obtain ⟨f, fd, F, r⟩ := D
  exact ⟨f, fd, F.imp h, r⟩
theorem Df.mono (D : Df P w K mg base j x ps sp) (h : j ≤ k) : Df P w K mg base k x ps sp := by
  obtain ⟨f, fd, F, r⟩ := D
  exact ⟨f, fd, F.mono h, r⟩
theorem Df.retell (D : Df P w K mg base k x ps sp) (hl : ∀ vs H Q E, sp' vs H Q E → vs.length = ps.length)
    (h : ∀ vs H Q E hp, sp' vs H Q E → HOk P w H hp → ∃ H1, Alike H H1 ∧ HOk P w H1 hp ∧ sp vs H1 (fun v H2 => ∀ hp', HOk P w H2 hp' → ∃ H3, Alike H2 H3 ∧ HOk P w H3 hp' ∧ Q v H3) E) : Df P w K mg base k x ps sp' := by
  obtain ⟨f, fd, F, r⟩ := D
  exact ⟨f, fd, Lay.retell F hl h, r⟩
end
/-- f(..), f(k = e), no exception leaves f -/
def tG (sp : Sp) (t : TA) : TE := fun σ H Q => t σ H fun vs H1 => sp vs H1 Q E0
section
variable {X : Cx} {x nm : Str} {ps : List Str} {sp : Sp} {k : Nat} {e : Expr} {es : List Expr} {t : TA} {te : TE} {p pos kpos : Pos}
theorem pe_own (D : Df X.prog X.w X.K X.mg X.base k x ps sp) (hr : Room k X.A) (hgd : X.A.guards = some []) (ht : PA X (e :: es) t) (hg : Gl X x := by rfl) (hdb : (x == ("__debug__" : Str)) = false := by decide) (hs : starEach (e :: es) X.env = (false, eval e X.env) :: starEach es X.env := by rfl) (hpl : (backTo pos (starEach es X.env)).any (·.1) = false := by rfl) :
    PE X (.Call (.Name x p) (e :: es) [] pos) (tG sp t) := by
  obtain ⟨f, fd, F, g, kp, b, _⟩ := D
  refine ⟨fun pins s σ H Q I h => ?_⟩
  refine wpAny_Call_Name_kw (ld_glob I hg g ?_ hdb)
  refine PySem.W.callWith_K (h₀ := X.base) I.ok.mod.kin kp (thn (ht.run pos pins s σ H _ I h) fun us s1 ⟨vs, H1, I1, r, q⟩ => ⟨I1.kIn, ?_⟩) hs hpl
  have hl : (us ++ []).length = ps.length := by rw [List.append_nil, ← r.length]; exact F.len _ _ _ _ q
  have b1 := b s1 us I1.kIn hl
  rw [List.append_nil] at b1
  exact wpAny_call (run_G F hr hgd I1 b1 r q)
theorem pe_own0 (D : Df X.prog X.w X.K X.mg X.base k x ps sp) (hr : Room k X.A) (hgd : X.A.guards = some []) (hg : Gl X x := by rfl) (hdb : (x == ("__debug__" : Str)) = false := by decide) : PE X (.Call (.Name x p) [] [] pos) (tG sp tNil) := by
  obtain ⟨f, fd, F, g, kp, b, _⟩ := D
  refine ⟨fun pins s σ H Q I h => ?_⟩
  refine wpAny_Call_Name_kw (ld_glob I hg g ?_ hdb)
  refine PySem.W.callWith_K0 I.kIn kp ?_
  have b1 := b s [] I.kIn (F.len _ _ _ _ h)
  exact wpAny_call (run_G F hr hgd I b1 .nil h)
theorem pe_own1K {q : Str} {kws : List Keyword} {tk : TA} (D : Df X.prog X.w X.K X.mg X.base k x [q] sp) (hr : Room k X.A) (hgd : X.A.guards = some []) (hkw : PK X kws tk) (hg : Gl X x := by rfl) (hdb : (x == ("__debug__" : Str)) = false := by decide)
    (hall : (backToKw pos (keywordEach kws X.env)).all (·.1.isSome) = true := by rfl) (hks : (backToKw pos (keywordEach kws X.env)).filterMap (·.1) = [q] := by rfl)
    (hpl : ((backTo pos (starEach [] X.env)).any (·.1) || (backToKw pos (keywordEach kws X.env)).any (·.1.isNone)) = false := by rfl) : PE X (.Call (.Name x p) [] kws pos) (tG sp tk) := by
  obtain ⟨f, fd, F, g, kp, _, b⟩ := D
  refine ⟨fun pins s σ H Q I h => ?_⟩
  refine wpAny_Call_Name_kw (ld_glob I hg g ?_ hdb)
  refine PySem.W.callWith_KW0 (h₀ := X.base) I.ok.mod.kin kp hall ?_ hpl
  refine thn (hkw.run pos pins s σ H _ I h) fun ws s2 ⟨zs, H2, I2, rz, q2⟩ => ⟨I2.kIn, ?_⟩
  rw [hks]
  have hl : zs.length = 1 := F.len _ _ _ _ q2
  cases rz with
  | nil => cases hl
  | @cons z u zr ur h1 rest =>
    cases rest with
    | cons _ _ => cases hl
    | nil =>
      have b1 : BindsTo s2 fd ⟨[], [(q, u)]⟩ ([q].zip [u]) := .of_eq (b q u rfl)
      exact wpAny_call (run_G (us' := [u]) (vs' := [z]) F hr hgd I2 b1 (.cons h1 .nil) q2)
end

/-! ### the pot: a list of two ints, whatever they are -/
def PotF (q : Addr) (h : Heap) : Prop := ∃ (a b : Int) (its : List Value) (n : Nat), 0 ≤ b ∧ b < 2147483648 ∧ Vals [.int a, .int b] its ∧ h.get? q = some { cls := .type "list", data := .seq its.toArray n }
def PotO (q : Addr) : HO := .ext (PotF q)
theorem pot_ok {P : Program} {w : World} {H : Hp} {h : Heap} {q : Addr} {a b : Int} (b0 : 0 ≤ b) (b1 : b < 2147483648) (x : ObjOk P w H h q (.lst [.int a, .int b])) (H' : Hp) : ObjOk P w H' h q (PotO q) := by
  obtain ⟨_, its, n, v, e⟩ := x
  exact ⟨⟨a, b, its, n, b0, b1, v, e⟩, ⟨_, e⟩, fun h1 h2 ⟨a, b, its, n, c0, c1, v, e⟩ k => ⟨a, b, its, n, c0, c1, v, k _ e⟩⟩
theorem pot_get {P : Program} {w : World} {H : Hp} {h : Heap} {q : Addr} (x : HOk P w H h) (e : H q = some (PotO q)) : ∃ a b : Int, 0 ≤ b ∧ b < 2147483648 ∧ ∀ H', ObjOk P w H' h q (.lst [.int a, .int b]) := by
  obtain ⟨⟨a, b, its, n, b0, b1, v, e⟩, _⟩ := x q _ e
  exact ⟨a, b, b0, b1, fun H' => ⟨by show 2 ≤ sizeLine; decide, its, n, v, e⟩⟩

/-- the raw promises: of the def that draws, of the def that makes a pot -/
def spDraw0 : Sp := fun vs H Q _ => ∃ (p : Addr) (m a b : Int), vs = [.ref p, .int m] ∧ H p = some (.lst [.int a, .int b]) ∧ 0 ≤ b ∧ b < 2147483648 ∧ 0 < m ∧ m < 2 ^ 200 ∧
  ∀ d a' b' H', 0 ≤ d → d < m → 0 ≤ b' → b' < 2147483648 → (∀ q o, q ≠ p → H q = some o → H' q = some o) → H' p = some (.lst [.int a', .int b']) → Q (.int d) H'
def spDraw : Sp := fun vs H Q _ => ∃ (p : Addr) (m : Int), vs = [.ref p, .int m] ∧ H p = some (PotO p) ∧ 0 < m ∧ m < 2 ^ 200 ∧
  ∀ d H', 0 ≤ d → d < m → Same H H' → Q (.int d) H'
theorem draw_up {P : Program} {w : World} {K : PySem.W.Frag} {mg : Str → Option Value} {base : Heap} {x : Str} {ps : List Str} {k : Nat} (D : Df P w K mg base k x ps spDraw0) (hl : ps.length = 2) : Df P w K mg base k x ps spDraw := by
  refine D.retell (fun vs H Q E h => ?_) fun vs H Q E hp h ok => ?_
  · obtain ⟨p, m, rfl, _⟩ := h; exact hl.symm
  · obtain ⟨p, m, rfl, e, m0, m1, k⟩ := h
    obtain ⟨a, b, b0, b1, o⟩ := pot_get ok e
    refine ⟨upd H p (.lst [.int a, .int b]), .upd e rfl rfl, hok_retell ok e rfl (o _), p, m, a, b, rfl, upd_same, b0, b1, m0, m1, fun d a' b' H' d0 d1 c0 c1 ks e' hp' ok' => ?_⟩
    refine ⟨upd H' p (PotO p), .upd e' rfl rfl, hok_retell ok' e' rfl (pot_ok c0 c1 (ok' _ _ e') _), k d _ d0 d1 fun q u hq => ?_⟩
    by_cases z : q = p
    · subst z; rw [e] at hq; cases hq; exact upd_same
    · rw [upd_ne z]; exact ks q u z (by rw [upd_ne z]; exact hq)
def spPot0 (K : PySem.W.Frag) : Sp := fun vs H Q _ => ∃ (s : Addr) (ns : List Int) (i : Nat), vs = [.ref s, .int i] ∧ SqL K H s (ns.map V.int) ∧ ns.length ≤ 63 ∧ i < 1000 ∧
  ∀ a b p H', 0 ≤ b → b < 2147483648 → H p = none → Same H H' → H' p = some (.lst [.int a, .int b]) → Q (.ref p) H'
def spPot (K : PySem.W.Frag) : Sp := fun vs H Q _ => ∃ (s : Addr) (ns : List Int) (i : Nat), vs = [.ref s, .int i] ∧ SqL K H s (ns.map V.int) ∧ ns.length ≤ 63 ∧ i < 1000 ∧
  ∀ p H', H p = none → Same H H' → H' p = some (PotO p) → Q (.ref p) H'
theorem pot_up {P : Program} {w : World} {K : PySem.W.Frag} {mg : Str → Option Value} {base : Heap} {x : Str} {ps : List Str} {k : Nat} (D : Df P w K mg base k x ps (spPot0 K)) (hl : ps.length = 2) : Df P w K mg base k x ps (spPot K) := by
  refine D.retell (fun vs H Q E h => ?_) fun vs H Q E hp h ok => ?_
  · obtain ⟨s, ns, i, rfl, _⟩ := h; exact hl.symm
  · obtain ⟨s, ns, i, rfl, hs, l, i1, k⟩ := h
    refine ⟨H, .refl, ok, s, ns, i, rfl, hs, l, i1, fun a b p H' b0 b1 np sm e hp' ok' => ?_⟩
    refine ⟨upd H' p (PotO p), .upd e rfl rfl, hok_retell ok' e rfl (pot_ok b0 b1 (ok' _ _ e) _), k p _ np (fun q u hq => ?_) upd_same⟩
    rw [upd_ne (ne_of_none hq np)]
    exact sm q u hq
theorem pe_con1 {X : Cx} {x : Str} {v : V} {pos : Pos} (h : ∃ u, X.mg x = some u ∧ RelV v u) (hg : Gl X x := by rfl) (hdb : (x == ("__debug__" : Str)) = false := by decide) : PE X (.Name x pos) (tC v) := by
  obtain ⟨u, e, r⟩ := h
  exact pe_glob hg e r (hd := hdb)
theorem Same.new {H : Hp} {p : Addr} {o : HO} (h : H p = none) : Same H (upd H p o) := fun a u e => by
  rw [upd_ne (ne_of_none e h)]; exact e
theorem Same.mut {H H' : Hp} {p : Addr} {o : HO} (e : Same H H') (h : H p = none) : Same H (upd H' p o) := fun a u ha => by
  rw [upd_ne (ne_of_none ha h)]; exact e a u ha
theorem same_t {K : PySem.W.Frag} {H H' : Hp} {a : Addr} {xs : List V} (e : Same H H') (h : SqT K H a xs) : SqT K H' a xs := by
  rcases h with (h | ⟨o, h⟩) | h
  · exact .inl (.inl (e _ _ h))
  · exact .inl (.inr ⟨o, e _ _ h⟩)
  · exact .inr h
theorem divs_ok {a m : Int} (m0 : 0 < m) (h : m < 2 ^ 200) : Builtin.divisionGoesByPylong a m = false := by
  have e : m.natAbs < 2 ^ 200 := by omega
  have e2 : m.natAbs.log2 < 200 := (Nat.log2_lt (by omega)).mpr e
  show (decide ((if m == 0 then 0 else m.natAbs.log2 / 30 + 1) > 300) && _) = false
  rw [if_neg (show ¬ (m == 0) = true by simpa using (show m ≠ 0 by omega))]
  rw [decide_eq_false (by omega)]
  rfl
end Lay

set_option Elab.async false
set_option linter.all false
set_option maxRecDepth 100000
set_option maxHeartbeats 4000000
namespace PySem
namespace Exv
open Builtin Builtin.ObjectAttr
section
variable {prog : Program} {w : World} {A : Around} {E : Value → Shared → Prop} {R : Result → Shared → Prop}
variable {h : Heap} {g : Array GenState} {d : Drawn} {t : Nat} {os : OsState}
variable {nm q : Str} {C N : Addr} {bs bm bmB : List Value} {hdct : Bool} {sn : List Str} {sub : List Value}
variable {ab : Bool} {col : Option Bool} {dd : Option Addr} {k0 k1 k2 k3 k5 : Option Value} {B newId initId : String}

theorem chk_kw {M : Model} (F : ExcBaseFacts B newId initId bmB) (hT : ∀ X : String, bm.contains (.type X) = bmB.contains (.type X))
    {rest : List Value} {kw : List (Str × Value)} {Q : Unit → Shared → Prop}
    (hC : h.get? C = some (excClassObj nm q C N bs bm hdct sn sub ab col dd k0 k1 k2 k3 k5 newId))
    (hq : Q () ⟨h, g, d, t, os⟩) : wpAny M A (checkBuiltinCall newId ⟨.ref C :: rest, kw⟩) Q E ⟨h, g, d, t, os⟩ := by
  have hcont : (Value.ref C :: bm).contains (.type B) = true := by rw [List.contains_cons, hT, F.hasB, Bool.or_true]
  have hstar := F.noStar
  simp only [checkBuiltinCall, F.newKind, F.newSplit, F.newRow]
  repeat (first
    | refine wpAny_loadPart_at hC ?_
    | (refine wpAny_isSubtype_exc hC ?_; rw [hcont])
    | refine wpAny_staticBase_exc hC ?_
    | refine wpAny_madeBy_exc hC ?_
    | simp only [bne_self_eq_false, Bool.false_eq_true, if_false]
    | wp_step)
  exact hq

theorem new_kw (F : ExcBaseFacts B newId initId bmB) (hT : ∀ X : String, bm.contains (.type X) = bmB.contains (.type X))
    {rest : List Value} {kw : List (Str × Value)}
    (hC : h.get? C = some (excClassObj nm q C N bs bm hdct sn sub ab col dd k0 k1 k2 k3 k5 newId))
    (hq : R (.ok (.ret (.ref (h.objs.size + 1))))
      ⟨(h.push (W.kdv_tup rest)).push (HandSPX.excO C h.objs.size), g, d, t, os⟩)
    (hrest : rest.length ≤ sizeLine) :
    codeAny (model prog w) A (.builtin newId ⟨.ref C :: rest, kw⟩) R ⟨h, g, d, t, os⟩ := by
  have z1 := F.ends
  have z2 : (Value.ref C :: bm).contains (.type B) = true := by rw [List.contains_cons, hT, F.hasB, Bool.or_true]
  have z3 : (Value.ref C :: bm).contains (.type "AttributeError") = false := by
    rw [List.contains_cons, hT, F.noAttr]
    rfl
  have z4 : (Value.ref C :: bm).contains (.type "NameError") = false := by
    rw [List.contains_cons, hT, F.noName]
    rfl
  refine codeAny_builtinAt F.entry ?_
  unfold Builtin.«BaseException.__new__»
  refine wpAt_bind ?_
  show wpAt _ _ _ (stack >>= _) _ _ _
  refine wpAt_bind (wpAt_stack fun p below => wpAt_of_wpAny ?_)
  wp_walk
  refine wpAt_of_wpAny ?_
  rw [F.owner]
  repeat (first
    | with_reducible refine wpAny_madeHere_exc F.canon hC ?_
    | with_reducible refine wpAny_loadPart_at hC ?_
    | (with_reducible refine wpAny_isSubtype_exc hC ?_; first | rw [z2] | rw [z3] | rw [z4])
    | wp_step)
  show R _ _
  rw [Heap.size_push]
  exact hq

theorem tcall_kw (F : ExcBaseFacts B newId initId bmB) (hT : ∀ X : String, bm.contains (.type X) = bmB.contains (.type X))
    {rest : List Value} {kw : List (Str × Value)} {fI : Addr} {Q : Fin → Shared → Prop}
    (hC : h.get? C = some (excClassObj nm q C N bs bm hdct sn sub ab col dd k0 k1 k2 k3 k5 newId))
    (hi : W.Looks (model prog w) h (typeLookup (.ref C) "__init__") (some (.ref fI)))
    (hb : ∀ self, W.Looks (model prog w) h (bindSpecial (.ref fI) self) (.ref fI, [self])) (hrest : rest.length ≤ sizeLine)
    (hq : codeAny (model prog w) A (.call (.ref fI) ⟨.ref (h.objs.size + 1) :: rest, kw⟩)
      (fun r s' => match r with
        | .ok (.ret v) => v = .none ∧ Q (.done (.ret (.ref (h.objs.size + 1)))) s'
        | .ok _ => False
        | .error e => E e s')
      ⟨(h.push (W.kdv_tup rest)).push (HandSPX.excO C h.objs.size), g, d, t, os⟩) :
    wpAny (model prog w) A (Builtin.«type.__call__» ⟨.ref C :: rest, kw⟩) Q E ⟨h, g, d, t, os⟩ := by
  repeat (first
    | with_reducible refine wpAny_loadPart_at hC ?_
    | with_reducible refine wpAny_madeBy_exc hC ?_
    | wp_step)
  refine codeAny_call_builtin_code (Code.quiet_builtin _ F.quiet) (chk_kw F hT hC ?_)
  refine new_kw F hT hC ?_ hrest
  show wpAny _ _ _ _ _ _
  have kk : ∀ b o, h.get? b = some o → ((h.push (W.kdv_tup rest)).push (HandSPX.excO C h.objs.size)).get? b = some o :=
    fun b o e => Heap.get?_push_of_some _ (Heap.get?_push_of_some _ e)
  have c1 := kk _ _ hC
  have c2 : ((h.push (W.kdv_tup rest)).push (HandSPX.excO C h.objs.size)).get? (h.objs.size + 1) = some (HandSPX.excO C h.objs.size) := by heap_get
  have c3 : (Value.ref C :: bm).contains (.ref C) = true := by simp
  have i1 := hi.keeps kk
  have b1 := (hb (.ref (h.objs.size + 1))).keeps kk
  unfold isInstance
  repeat (first
    | with_reducible refine wpAny_loadPart_at c2 ?_
    | (with_reducible refine wpAny_isSubtype_exc c1 ?_; rw [c3])
    | wp_step)
  show wpAny _ _ (typeLookup (.ref C) _) _ _ _
  refine i1.at ?_
  refine wpAny_holding (wpAny_bind (b1.at ?_))
  refine wpAny_bind (wpAny_call (codeAny_mono hq fun r s' z => ?_))
  rcases r with e | (v | _ | _ | _) <;> first | exact z | exact z.elim | skip
  obtain ⟨rfl, z⟩ := z
  first
    | exact wpAny_pure (wpAny_pure z)
    | (wp_walk; exact z)

theorem chkt_kw {M : Model} {rest : List Value} {kw : List (Str × Value)} {Q : Unit → Shared → Prop}
    (hC : h.get? C = some (excClassObj nm q C N bs bm hdct sn sub ab col dd k0 k1 k2 k3 k5 newId))
    (hq : Q () ⟨h, g, d, t, os⟩) : wpAny M A (checkBuiltinCall "type.__call__" ⟨.ref C :: rest, kw⟩) Q E ⟨h, g, d, t, os⟩ := by
  have f3 := tc_sub
  have hT : (⟨h, g, d, t, os⟩ : Shared).TypeIs (.ref C) "type" := ⟨_, hC, rfl⟩
  simp only [checkBuiltinCall, tc_kind, tc_split]
  repeat (any_goals (first
    | assumption
    | with_reducible refine wpAny_loadPart_at hC ?_
    | with_reducible refine wpAny_onRaise ?_
    | with_reducible refine wpAny_map ?_
    | wp_step))

theorem call_kw (F : ExcBaseFacts B newId initId bmB) (hT : ∀ X : String, bm.contains (.type X) = bmB.contains (.type X))
    {rest : List Value} {kw : List (Str × Value)} {fI : Addr}
    (hC : h.get? C = some (excClassObj nm q C N bs bm hdct sn sub ab col dd k0 k1 k2 k3 k5 newId))
    (hi : W.Looks (model prog w) h (typeLookup (.ref C) "__init__") (some (.ref fI)))
    (hb : ∀ self, W.Looks (model prog w) h (bindSpecial (.ref fI) self) (.ref fI, [self])) (hrest : rest.length ≤ sizeLine)
    (hq : codeAny (model prog w) (A.under (.builtin "type.__call__" ⟨.ref C :: rest, kw⟩))
      (.call (.ref fI) ⟨.ref (h.objs.size + 1) :: rest, kw⟩) (W.InitBack (h.objs.size + 1) R)
      ⟨(h.push (W.kdv_tup rest)).push (HandSPX.excO C h.objs.size), g, d, t, os⟩) :
    codeAny (model prog w) A (.call (.ref C) ⟨rest, kw⟩) R ⟨h, g, d, t, os⟩ := by
  have f1 := tc_lookup
  have f2 := tc_bind (.ref C)
  have hTy : (⟨h, g, d, t, os⟩ : Shared).TypeIs (.ref C) "type" := ⟨_, hC, rfl⟩
  refine codeAny_of_tree ?_
  show wpAny _ _ (callAny (.ref C) _) _ _ _
  repeat (any_goals (first
    | assumption
    | with_reducible refine wpAny_loadPart_at hC ?_
    | wp_step))
  refine ⟨rfl, ?_⟩
  refine codeAny_call_builtin_at (Code.quiet_builtin _ (by decide +kernel)) entry_typeCall (chkt_kw hC (tcall_kw F hT hC hi hb hrest ?_))
  refine codeAny_mono hq fun r s' z => ?_
  rcases r with e | (v | _ | _ | _) <;> exact z
end
end Exv
end PySem

set_option Elab.async false
set_option linter.all false
set_option maxRecDepth 100000
set_option maxHeartbeats 4000000
namespace PySem
namespace Exv
open Builtin Builtin.ObjectAttr
section
variable {prog : Program} {w : World} {A : Around} {E : Value → Shared → Prop} {R : Result → Shared → Prop}
variable {hp : Heap} {g : Array GenState} {d : Drawn} {t : Nat} {os : OsState} {B : String} {bmB : List Value}

/-- the ends that both stores share: what comes ahead of the store into the own dict -/
theorem osa_head {K : W.Frag} {name : Str} {tk : Tok} {v : Value} {x C : Addr} {ox : Obj} {od : Option Obj} {cd : ClassData} {bm : List Value}
    (SF : StoreFacts B bmB "object.__setattr__" "object") (X : K.In hp) (I : W.InstAt hp x ox C od) (hcd : W.clsIn K C = some cd)
    (hm : cd.mro = .ref C :: bm) (ht : W.excTail bmB bm = true) (ha : W.findIn K (.ref C) name = some none)
    (hq : wpAny (model prog w) A.in1 (storeInOwnDict (.ref x) (.ref C) (.str name tk) name v false)
      (fun fin s' => match fin with | .done f => R (.ok f) s' | .again c' => c'.quiet = true ∧ codeAny (model prog w) A c' R s')
      (fun e s' => R (.error e) s') ⟨hp, g, d, t, os⟩) :
    codeAny (model prog w) A (.call (.builtin "object.__setattr__") ⟨[.ref x, .str name tk, v], []⟩) R ⟨hp, g, d, t, os⟩ := by
  have ob : cd.mro.contains (.type "object") = true := by
    rw [hm, List.contains_cons, W.excTail_contains "object" _ ht, SF.hasOwner, Bool.or_true]
  have ne : cd.mro.isEmpty = false := by rw [hm]; rfl
  have sub : W.Looks (model prog w) hp (isInstance (.ref x) (.type "object")) true :=
    I.type.andThen (W.looks_mroIn X (by unfold W.mroIn; rw [hcd, Option.bind_some, if_neg (by rw [ne]; decide), ob]))
  refine codeAny_call_builtin SF.slot.plain SF.entry
    (@W.check_slot (model prog w) _ _ ⟨hp, g, d, t, os⟩ "object.__setattr__" "object" "__setattr__" (.ref x) [.str name tk, v] [] _
      SF.kind SF.split sub (SF.args (.ref x) (.str name tk) v) ?_)
  have l1 : W.Looks (model prog w) hp (mroOf (.ref C)) cd.mro := (W.looks_clsIn X hcd).andThen .now
  have l3 : W.Looks (model prog w) hp (storeTaker? none) none := .now
  rw [W.osa_eq, refuse_eq]
  refine wpAny_bind (wpAny_bind (I.type.at (wpAny_bind (l1.at ?_))))
  rw [hm, refuseLoop_ref, W.excTail_pass _ (SF.passes _) _ ht]
  refine wpAny_pure (wpAny_bind (I.type.at (wpAny_bind ((W.looks_findIn X ha).at (wpAny_bind (l3.at ?_))))))
  exact hq

/-- the first field of an exception -/
theorem osa_new {K : W.Frag} {name : Str} {tk : Tok} {v : Value} {x C : Addr} {fv : Array Value} {cd : ClassData} {bm : List Value}
    (SF : StoreFacts B bmB "object.__setattr__" "object") (X : K.In hp)
    (hx : hp.get? x = some { cls := .ref C, data := .fields fv }) (hcd : W.clsIn K C = some cd)
    (hm : cd.mro = .ref C :: bm) (ht : W.excTail bmB bm = true) (hh : cd.hasDict = true) (ha : W.findIn K (.ref C) name = some none)
    (hq : ∀ h' tk' dx, (∀ b o, b ≠ x → hp.get? b = some o → h'.get? b = some o) → hp.objs.size ≤ dx → dx ≠ x →
      h'.get? x = some { cls := .ref C, dict := some dx, data := .fields fv } →
      h'.Ns1 dx (fun y => if y = name then some v else none) → R (.ok (.ret .none)) ⟨h', g, d, tk', os⟩) :
    codeAny (model prog w) A (.call (.builtin "object.__setattr__") ⟨[.ref x, .str name tk, v], []⟩) R ⟨hp, g, d, t, os⟩ := by
  have I : W.InstAt hp x { cls := .ref C, data := .fields fv } C none := ⟨hx, rfl, rfl, trivial⟩
  have hxs : x ≠ hp.objs.size := Nat.ne_of_lt (Heap.lt_size hx)
  have hcls : W.Looks (model prog w) hp (classData C) cd := W.looks_clsIn X hcd
  refine osa_head SF X I hcd hm ht ha ?_
  obtain ⟨nm, bs, mro, ns, qn, hd, sn, sb, ab, col, del⟩ := cd
  dsimp only at hh
  subst hh
  unfold storeInOwnDict ownDictForStores
  repeat (first
    | with_reducible refine HandSPX.store_in_new ?_ ?_
    | with_reducible refine wpAny_loadPart_at hx ?_
    | with_reducible refine hcls.at ?_
    | wp_step)
  · exact ⟨_, #[], _, (Heap.get?_update_ne _ _ _ _ hxs.symm).trans (Heap.get?_push_at rfl rfl), rfl, fun e he => absurd he (by simp), fun _ => rfl⟩
  · intro h' tk' hn' hs
    have h1 : (hp.push { cls := .type "dict", data := .dict #[] }).get? x = some { cls := .ref C, data := .fields fv } := by
      exact Heap.get?_push_of_some _ hx
    refine hq h' tk' hp.objs.size (fun b o hb ho => ?_) (Nat.le_refl _) hxs.symm ?_ hn'
    · have e1 := hs.2 b (Nat.ne_of_lt (Heap.lt_size ho))
      exact e1.trans ((Heap.get?_update_ne _ _ _ _ hb).trans (Heap.get?_push_of_some _ ho))
    · have e1 := hs.2 x hxs
      exact e1.trans (Heap.get?_update_self _ h1 rfl)

/-- a further field -/
theorem osa_more {K : W.Frag} {name : Str} {tk : Tok} {v : Value} {x C dx : Addr} {fv : Array Value} {cd : ClassData} {bm : List Value}
    {m0 : Str → Option Value} {nl : List Str} (SF : StoreFacts B bmB "object.__setattr__" "object") (X : K.In hp)
    (hx : hp.get? x = some { cls := .ref C, dict := some dx, data := .fields fv }) (hns : hp.Ns1 dx m0) (hw : Within m0 nl) (hz : nl.length ≤ 1000)
    (hcd : W.clsIn K C = some cd) (hm : cd.mro = .ref C :: bm) (ht : W.excTail bmB bm = true) (hh : cd.hasDict = true) (ha : W.findIn K (.ref C) name = some none)
    (hq : ∀ h' tk', (∀ b o, b ≠ dx → hp.get? b = some o → h'.get? b = some o) →
      h'.Ns1 dx (fun y => if y = name then some v else m0 y) → R (.ok (.ret .none)) ⟨h', g, d, tk', os⟩) :
    codeAny (model prog w) A (.call (.builtin "object.__setattr__") ⟨[.ref x, .str name tk, v], []⟩) R ⟨hp, g, d, t, os⟩ := by
  obtain ⟨oD, esD, epD, hoD, hdD, _⟩ := hns.count hw
  have I : W.InstAt hp x { cls := .ref C, dict := some dx, data := .fields fv } C (some oD) := ⟨hx, rfl, rfl, hoD⟩
  have hcls : W.Looks (model prog w) hp (classData C) cd := W.looks_clsIn X hcd
  refine osa_head SF X I hcd hm ht ha ?_
  obtain ⟨nm, bs, mro, ns, qn, hd, sn, sb, ab, col, del⟩ := cd
  dsimp only at hh
  subst hh
  unfold storeInOwnDict ownDictForStores
  repeat (first
    | with_reducible refine OEX.store_in_old hns hw hz ?_
    | with_reducible refine wpAny_loadPart_at hx ?_
    | with_reducible refine hcls.at ?_
    | wp_step)
  intro h' tk' hn' hs
  exact hq h' tk' (fun b o hb ho => (hs.2 b hb).trans ho) hn'
end
end Exv
end PySem

namespace Exv
open PySem L2 Lay PyProof.Rows
/-- a built-in base class of errors, as the library tells it -/
structure Bs (B newId initId : String) (bmB : List Value) : Prop where
  fb : ExcBaseFacts B newId initId bmB
  sf : StoreFacts B bmB "object.__setattr__" "object"
theorem bsV : Bs "ValueError" "ValueError.__new__" "ValueError.__init__" [.type "ValueError", .type "Exception", .type "BaseException", .type "object"] := ⟨F.excBase_ValueError, F.store_ValueError⟩
theorem bsL : Bs "LookupError" "LookupError.__new__" "LookupError.__init__" [.type "LookupError", .type "Exception", .type "BaseException", .type "object"] := ⟨F.excBase_LookupError, F.store_LookupError⟩
theorem bsR : Bs "RuntimeError" "RuntimeError.__new__" "RuntimeError.__init__" [.type "RuntimeError", .type "Exception", .type "BaseException", .type "object"] := ⟨F.excBase_RuntimeError, F.store_RuntimeError⟩
theorem bsA : Bs "ArithmeticError" "ArithmeticError.__new__" "ArithmeticError.__init__" [.type "ArithmeticError", .type "Exception", .type "BaseException", .type "object"] := ⟨F.excBase_ArithmeticError, F.store_ArithmeticError⟩

/-- an error of the class at C: its own dict (none as yet), the tuple of what it was made of -/
def exo (e C : Addr) (d : Option Addr) (t : Addr) : HO :=
  .ext fun h => h.get? e = some ({ cls := .ref C, dict := d, data := .fields #[.ref t, .none, .none, .none, .bool false, .none] } : Obj)
theorem exo_ok {P : Program} {w : World} {H : Hp} {h : Heap} {e C t : Addr} {d : Option Addr}
    (he : h.get? e = some ({ cls := .ref C, dict := d, data := .fields #[.ref t, .none, .none, .none, .bool false, .none] } : Obj)) : ObjOk P w H h e (exo e C d t) :=
  ⟨he, ⟨_, he⟩, fun _ _ _ k => k _ ‹_›⟩
theorem exo_at {P : Program} {w : World} {H : Hp} {h : Heap} {e C t : Addr} {d : Option Addr} (ok : HOk P w H h) (x : H e = some (exo e C d t)) :
    h.get? e = some ({ cls := .ref C, dict := d, data := .fields #[.ref t, .none, .none, .none, .bool false, .none] } : Obj) := by
  have y : ObjOk P w H h e (.ext fun h => h.get? e = some ({ cls := .ref C, dict := d, data := .fields #[.ref t, .none, .none, .none, .bool false, .none] } : Obj)) := ok e _ x
  exact y.1
theorem exo_plain {e C t : Addr} {d : Option Addr} : plainO (exo e C d t) = true := rfl
theorem exd_plain {e : Addr} {fs : List (Str × V)} : plainO (exd e fs) = true := rfl
/-- what the written part says of an error's class -/
structure Cl (K : PySem.W.Frag) (C : Addr) (newId : String) (bmB : List Value) : Prop where
  cls : ∃ nm q N bs bm sn sub ab col dd k0 k1 k2 k3 k5, K.lookup C = some (excClassObj nm q C N bs bm true sn sub ab col dd k0 k1 k2 k3 k5 newId) ∧ PySem.W.excTail bmB bm = true
  sa : PySem.W.findIn K (.ref C) "__setattr__" = some (some (.builtin "object.__setattr__"))
  ga : PySem.W.findIn K (.ref C) "__getattribute__" = some (some (.builtin "BaseException.__getattribute__"))
  gg : PySem.W.findIn K (.ref C) "__getattr__" = some none
  exC : PySem.W.subIn K (.ref C) (.type "BaseException") = some true
  tyC : PySem.W.typeIn K (.ref C) = some (.type "type")
  kC : PySem.W.keepIn K (.ref C) = true
  hd : PySem.W.hasDictIn K C = true
  ha : PySem.W.findIn K (.ref C) "__class__" = some (some (.builtin "object.__class__"))
  hm : PySem.W.mroIn K C (.type "object") = some true
section
variable {X : Cx} {pins : List (Addr × Obj)} {σ : L2.St} {H : Hp} {s : Shared} {a C dx t1 : Addr} {f : Str} {y : V} {u : Value} {fs : List (Str × V)}
variable {Q : Unit → Shared → Prop} {E : Value → Shared → Prop} {A : Around} {B newId initId : String} {bmB : List Value}
theorem plain_ne_own {o : HO} (p : plainO o = true) {x : Addr} (e : H a = some o) {c : Addr} (z : H c = some (.own x)) : c ≠ a := fun q => by
  subst q; rw [e] at z; cases z; cases p
theorem plain_ne_tup {o : HO} (p : plainO o = true) {xs : List V} (e : H a = some o) {c : Addr} (z : H c = some (.tup xs)) : c ≠ a := fun q => by
  subst q; rw [e] at z; cases z; cases p
theorem plain_ne_frz {o : HO} (p : plainO o = true) {ob : Obj} {v : HO} (e : H a = some o) {c : Addr} (z : H c = some (.frz ob v)) : c ≠ a := fun q => by
  subst q; rw [e] at z; cases z; cases p
theorem plain_ne_tbl {o : HO} (p : plainO o = true) {ps : Array Value} (e : H a = some o) {c : Addr} (z : H c = some (.tbl ps)) : c ≠ a := fun q => by
  subst q; rw [e] at z; cases z; cases p
theorem Cl.cd (T : Cl X.K C newId bmB) : ∃ cd bm, PySem.W.clsIn X.K C = some cd ∧ cd.mro = .ref C :: bm ∧ PySem.W.excTail bmB bm = true ∧ cd.hasDict = true := by
  obtain ⟨nm, q, N, bs, bm, sn, sub, ab, col, dd, k0, k1, k2, k3, k5, hC, hbm⟩ := T.cls
  refine ⟨{ name := nm, bases := bs, mro := .ref C :: bm, ns := N, qualname := q, hasDict := true, slotNames := sn, subclasses := sub, abstract := ab, collection := col, hasDel := false }, bm, ?_, rfl, hbm, rfl⟩
  unfold PySem.W.clsIn
  rw [hC] <;> rfl
/-- self.f = y, the first one -/
theorem st_new (b : Bs B newId initId bmB) (T : Cl X.K C newId bmB) (I : Inv X pins σ H s) (e : H a = some (exo a C none t1)) (hno : PySem.W.findIn X.K (.ref C) f = some none) (ry : RelV y u)
    (h : ∀ dx s', H dx = none → dx ≠ a → Inv X pins σ (upd (upd H dx (exd dx [(f, y)])) a (exo a C (some dx) t1)) s' → Q () s') :
    wpAny (model X.prog X.w) A (setAttr (.ref a) f u) Q E s := by
  obtain ⟨cd, bm, hcl, hm, ht, hh⟩ := T.cd
  have ho := exo_at I.hok e
  obtain ⟨hp, g, d, t, os⟩ := s
  refine PySem.W.set_plain I.kIn (ox := { cls := .ref C, dict := none, data := .fields #[.ref t1, .none, .none, .none, .bool false, .none] }) (od := none) ⟨ho, rfl, rfl, trivial⟩ T.sa ?_
  refine PySem.Exv.osa_new b.sf I.kIn ho hcl hm ht hh hno (fun h' tk' dx k dn dne hx hn => ?_)
  have hnd : H dx = none := I.hok.fresh dn
  have nd : ∀ {b : Addr} {o : Obj}, hp.get? b = some o → b ≠ dx := fun {b o} q => Nat.ne_of_lt (Nat.lt_of_lt_of_le (Heap.lt_size q) dn)
  have na : ∀ {b : Addr}, H b = none → b ≠ a := fun {b} n z => by rw [z, e] at n; cases n
  have P1 := exo_plain (e := a) (C := C) (t := t1) (d := none)
  have U : Un X.fs [] H (upd (upd H dx (exd dx [(f, y)])) a (exo a C (some dx) t1)) hp h' := {
    keep := fun b o q n _ _ => k b o (na n) q
    slot := fun b o q n _ _ => ⟨o.slots, k b o (na n) q⟩
    free := fun b o q n _ => by rw [upd_ne (na n), upd_ne (nd q)]; exact n
    there := fun b o q _ => by
      by_cases hb : b = a
      · exact ⟨_, by rw [hb]; exact hx⟩
      · exact ⟨o, k b o hb q⟩
    tups := fun b xs q => by rw [upd_ne (plain_ne_tup P1 e q), upd_ne (ne_of_none q hnd)]; exact q
    frzs := fun b o v q => by rw [upd_ne (plain_ne_frz P1 e q), upd_ne (ne_of_none q hnd)]; exact q
    tbls := fun b ps q => ⟨#[], by rw [upd_ne (plain_ne_tbl P1 e q), upd_ne (ne_of_none q hnd), q]; simp⟩ }
  refine h dx _ hnd dne (I.un (t' := tk') U fun b o q => ?_)
  by_cases hb : b = a
  · subst hb; rw [upd_same] at q; cases q
    exact exo_ok hx
  · rw [upd_ne hb] at q
    by_cases hd : b = dx
    · subst hd; rw [upd_same] at q; cases q
      exact exd_ok hn (relO_put (fs := []) ry fun g => True.intro)
    · rw [upd_ne hd] at q
      refine (I.hok b o q).stay (fun c v hc z => k c v ?_ z) (fun c hc => ?_) fun c xs hc => ?_
      · rcases hc with hc | hc
        · rw [hc]; exact hb
        · exact plain_ne_own P1 e hc
      · rw [upd_ne (plain_ne_own P1 e hc), upd_ne (ne_of_none hc hnd)]; exact hc
      · rw [upd_ne (plain_ne_tup P1 e hc), upd_ne (ne_of_none hc hnd)]; exact hc
/-- self.f = y, a further one -/
theorem st_old (b : Bs B newId initId bmB) (T : Cl X.K C newId bmB) (I : Inv X pins σ H s) (e : H a = some (exo a C (some dx) t1)) (ed : H dx = some (exd dx fs)) (hl : fs.length ≤ 900)
    (hno : PySem.W.findIn X.K (.ref C) f = some none) (ry : RelV y u) (h : ∀ s', Inv X pins σ (upd H dx (exd dx ((f, y) :: fs))) s' → Q () s') :
    wpAny (model X.prog X.w) A (setAttr (.ref a) f u) Q E s := by
  obtain ⟨cd, bm, hcl, hm, ht, hh⟩ := T.cd
  have ho := exo_at I.hok e
  obtain ⟨mA, hns, rel⟩ := exd_at I.hok ed
  have hw := within_of rel
  obtain ⟨hp, g, d, t, os⟩ := s
  obtain ⟨oD, _, _, hoD, _, _⟩ := hns.count hw
  refine PySem.W.set_plain I.kIn (ox := { cls := .ref C, dict := some dx, data := .fields #[.ref t1, .none, .none, .none, .bool false, .none] }) (od := some oD) ⟨ho, rfl, rfl, hoD⟩ T.sa ?_
  refine PySem.Exv.osa_more b.sf I.kIn ho hns hw (by rw [List.length_map]; omega) hcl hm ht hh hno (fun h' tk' k hn => ?_)
  have hd : ∃ o, h'.get? dx = some o := by
    obtain ⟨o, _, _, e', _⟩ := hn
    exact ⟨o, e'⟩
  exact h _ (I.write (t' := tk') (x := dx) (e := dx) (o := exd dx ((f, y) :: fs)) (by rw [ed]; exact True.intro) (.inl rfl) k hd (exd_ok hn (relO_put ry rel)))
/-- e.f, e an error -/
theorem at_get {expr : Bool} {Q : Value → Shared → Prop} (T : Cl X.K C newId bmB) (I : Inv X pins σ H s) (e : H a = some (exo a C (some dx) t1)) (ed : H dx = some (exd dx fs)) (hf : fs.lookup f = some y)
    (hno : PySem.W.findIn X.K (.ref C) f = some none) (h : ∀ u s', RelV y u → Inv X pins σ H s' → Q u s') : wpAny (model X.prog X.w) A (getAttr (.ref a) f expr) Q E s := by
  have ho := exo_at I.hok e
  obtain ⟨mA, hns, rel⟩ := exd_at I.hok ed
  obtain ⟨od, hod, hl⟩ := lookIn_ns hns
  obtain ⟨u, hu, ru⟩ := RelO.some_of (v := y) (o := mA f) (by rw [← hf]; exact rel f)
  have J : PySem.W.InstAt s.heap a { cls := .ref C, dict := some dx, data := .fields #[.ref t1, .none, .none, .none, .bool false, .none] } C (some od) := ⟨ho, rfl, rfl, hod⟩
  exact HandSPX.exc_get I.kIn J T.ga T.gg T.exC (PySem.W.findObj_own T.hd hno rfl (by rw [hl, hu])) (handed_of ru) (h u _ ru (I.tok _))
end
end Exv

set_option Elab.async false
set_option linter.all false
set_option maxRecDepth 100000
set_option maxHeartbeats 4000000
namespace Exv
open PySem L2 Lay PyProof.Rows
/-- at a stands an error of the class at C with these fields, made of args -/
def IsExc (H : Hp) (a C : Addr) (fs : List (Str × V)) (args : List V) : Prop :=
  ∃ t, H t = some (.tup args) ∧ ((fs = [] ∧ H a = some (exo a C none t)) ∨ ∃ d, H a = some (exo a C (some d) t) ∧ H d = some (exd d fs))
theorem IsExc.same {H H' : Hp} {a C : Addr} {fs : List (Str × V)} {args : List V} (e : L2.Same H H') (h : IsExc H a C fs args) : IsExc H' a C fs args := by
  obtain ⟨t, ht, h⟩ := h
  refine ⟨t, e _ _ ht, ?_⟩
  rcases h with ⟨z, h⟩ | ⟨d, h, hd⟩
  · exact .inl ⟨z, e _ _ h⟩
  · exact .inr ⟨d, e _ _ h, e _ _ hd⟩
/-- what an error's __init__ promises: the fields mk of what it was handed -/
def spI (C : Addr) (n : Nat) (mk : List V → List (Str × V)) : Sp := fun vs H Q _ => ∃ (a t : Addr) (ws : List V), vs = .ref a :: ws ∧ ws.length = n ∧ H a = some (exo a C none t) ∧
  ∀ H', (∀ b o, b ≠ a → H b = some o → H' b = some o) →
    ((mk ws = [] ∧ H' a = some (exo a C none t)) ∨ ∃ d, H' a = some (exo a C (some d) t) ∧ H' d = some (exd d (mk ws))) → Q .non H'
section
variable {X : Cx} {pins : List (Addr × Obj)} {σ : L2.St} {H : Hp} {s : Shared} {C fI : Addr} {B newId initId : String} {bmB : List Value}
variable {k n : Nat} {fd : FuncData} {ps ks : List Str} {mk : List V → List (Str × V)} {g : List Value → List Value → List Value} {gV : List V → List V → List V}
theorem run_mk {Q : VK} {us ws : List Value} {vs zs : List V} {fs : List (Str × V)} (b : Bs B newId initId bmB) (T : Cl X.K C newId bmB)
    (hi : PySem.W.findIn X.K (.ref C) "__init__" = some (some (.ref fI))) (tI : PySem.W.typeIn X.K (.ref fI) = some (.type "function"))
    (F : FnOk X.prog X.w X.K X.mg X.base CX0 k fI fd ps (spI C n mk)) (hr : Room (k + 1) X.A) (hb : KBinds X.K fd ps ks g gV)
    (I : Inv X pins σ H s) (r : Vals vs us) (rz : Vals zs ws) (hz : us.length ≤ sizeLine)
    (hg : ∀ a, ∃ yl, gV (.ref a :: vs) zs = .ref a :: yl ∧ yl.length = n ∧ mk yl = fs)
    (h : ∀ a H2, H a = none → L2.Same H H2 → IsExc H2 a C fs vs → Q (.ref a) H2) :
    wpAny (model X.prog X.w) X.A (call (.ref C) us (ks.zip ws)) (EP X pins σ Q) X.xe s := by
  obtain ⟨nm, q, N, bs, bm, sn, sub, ab, col, dd, k0, k1, k2, k3, k5, hC, hbm⟩ := T.cls
  obtain ⟨hp, gn, dr, tk, os⟩ := s
  have n0 : H hp.objs.size = none := I.hok.fresh (Nat.le_refl _)
  have n1 : H (hp.objs.size + 1) = none := I.hok.fresh (Nat.le_succ _)
  have sz : (hp.push (PySem.W.kdv_tup us)).objs.size = hp.objs.size + 1 := Heap.size_push _ _
  have I1 : Inv X pins σ (upd H hp.objs.size (.tup vs)) ⟨hp.push (PySem.W.kdv_tup us), gn, dr, tk, os⟩ :=
    I.laid (t' := tk) (a := hp.objs.size) (o := .tup vs) (h' := hp.push (PySem.W.kdv_tup us)) (fun b o e => Heap.get?_push_of_some _ e) (Nat.le_refl _)
      ⟨by rw [r.length]; exact hz, us, r, ⟨_, Heap.get?_push_size _ rfl, rfl, _, rfl⟩⟩
  have hget : ((hp.push (PySem.W.kdv_tup us)).push (PySem.HandSPX.excO C hp.objs.size)).get? (hp.objs.size + 1) = some (PySem.HandSPX.excO C hp.objs.size) := by heap_get
  have I2 : Inv X pins σ (upd (upd H hp.objs.size (.tup vs)) (hp.objs.size + 1) (exo (hp.objs.size + 1) C none hp.objs.size))
      ⟨(hp.push (PySem.W.kdv_tup us)).push (PySem.HandSPX.excO C hp.objs.size), gn, dr, tk, os⟩ :=
    I1.laid (t' := tk) (a := hp.objs.size + 1) (o := exo (hp.objs.size + 1) C none hp.objs.size)
      (h' := (hp.push (PySem.W.kdv_tup us)).push (PySem.HandSPX.excO C hp.objs.size)) (fun b o e => Heap.get?_push_of_some _ e)
      (by show (hp.push (PySem.W.kdv_tup us)).objs.size ≤ _; rw [sz]; exact Nat.le_refl _) (exo_ok hget)
  obtain ⟨yl, eg, ly, em⟩ := hg (hp.objs.size + 1)
  have ne : hp.objs.size ≠ hp.objs.size + 1 := (Nat.succ_ne_self _).symm
  have hsp : spI C n mk (gV (.ref (hp.objs.size + 1) :: vs) zs) (upd (upd H hp.objs.size (.tup vs)) (hp.objs.size + 1) (exo (hp.objs.size + 1) C none hp.objs.size))
      (fun v H2 => v = .non ∧ Q (.ref (hp.objs.size + 1)) H2) E0 := by
    refine ⟨hp.objs.size + 1, hp.objs.size, yl, eg, ly, upd_same, fun H' kp hh => ⟨rfl, h _ _ n1 (fun b o e => ?_) ⟨hp.objs.size, ?_, ?_⟩⟩⟩
    · refine kp b o (ne_of_none e n1) ?_
      rw [upd_ne (ne_of_none e n1), upd_ne (ne_of_none e n0)]; exact e
    · refine kp _ _ ne ?_
      rw [upd_ne ne, upd_same]
    · rw [em] at hh; exact hh
  have r2 : Vals (gV (.ref (hp.objs.size + 1) :: vs) zs) (g (.ref (hp.objs.size + 1) :: us) ws) := hb.rel (.cons rfl r) rz
  have hl : (g (.ref (hp.objs.size + 1) :: us) ws).length = ps.length := by rw [← r2.length]; exact F.len _ _ _ _ hsp
  refine wpAny_call (PySem.Exv.call_kw b.fb (fun Y => PySem.W.excTail_contains Y bm hbm) (I.kIn _ _ hC) (PySem.W.looks_findIn I.kIn hi) (fun self => PySem.W.bind_fn I.kIn self tI) hz
    (codeAny_mono (F.run _ X.stack _ _ ⟨.ref (hp.objs.size + 1) :: us, ks.zip ws⟩ _ _ _ E0 (hr.make C us (ks.zip ws)) (I2.env0.make C us (ks.zip ws)) (hb.to _ _ _ I2.kIn hl) r2 hsp) fun rr s' hq => ?_))
  cases rr with
  | error er => exact False.elim hq
  | ok fl =>
    cases fl with
    | ret u =>
      obtain ⟨v, H', I3, rv, ev, q3⟩ := I2.after hq
      subst ev
      exact ⟨rv, ⟨V.ref (hp.objs.size + 1), H', I3, rfl, q3⟩⟩
    | next => exact False.elim hq
    | brk => exact False.elim hq
    | cont => exact False.elim hq
end

/-- a class of errors of the text: all that a call of it needs; n fields, which mk tells of what was handed to __init__ -/
structure Ec (P : Program) (w : World) (K : PySem.W.Frag) (mg : Str → Option Value) (base : Heap) (x : Str) (C : Addr) (newId : String) (bmB : List Value) (ps : List Str) (n : Nat) (mk : List V → List (Str × V)) : Prop where
  g : mg x = some (.ref C)
  cl : Cl K C newId bmB
  ini : ∃ fI fd, PySem.W.findIn K (.ref C) "__init__" = some (some (.ref fI)) ∧ PySem.W.typeIn K (.ref fI) = some (.type "function") ∧ FnOk P w K mg base CX0 1 fI fd ps (spI C n mk) ∧
    (∀ us : List Value, us.length = ps.length → bindArgs fd ⟨us, []⟩ = pure (ps.zip us)) ∧
    (∀ (s0 : Value) (ws : List Value), ws.length = n → ∀ ks : List Str, ks ++ [("self" : Str)] = ps.reverse → bindArgs fd ⟨[s0], ks.zip ws⟩ = pure (ps.zip (s0 :: ws.reverse)))
theorem kb_pos {K : PySem.W.Frag} {fd : FuncData} {ps : List Str} (h : ∀ us : List Value, us.length = ps.length → bindArgs fd ⟨us, []⟩ = pure (ps.zip us)) : KBinds K fd ps [] (fun us _ => us) (fun vs _ => vs) :=
  ⟨fun s us ws _ hl => .of_eq (h us hl), fun r _ => r⟩

section
variable {X : Cx} {x : Str} {C : Addr} {B newId initId : String} {bmB : List Value} {ps ks : List Str} {n : Nat} {mk : List V → List (Str × V)} {e : Expr} {es : List Expr} {t : TA} {p pos : Pos}
/-- C(..) -/
def tMkE (C : Addr) (n : Nat) (mk : List V → List (Str × V)) (t : TA) : TE := fun σ H Q => t σ H fun vs H1 => vs.length = n ∧ ∀ a H2, H1 a = none → L2.Same H1 H2 → IsExc H2 a C (mk vs) vs → Q (.ref a) H2
theorem pe_mk (b : Bs B newId initId bmB) (D : Ec X.prog X.w X.K X.mg X.base x C newId bmB ps n mk) (hn : n ≤ 1000) (hr : Room 2 X.A) (ha : PA X (e :: es) t) (hg : Gl X x := by rfl)
    (hdb : (x == ("__debug__" : Str)) = false := by decide) (he : starEach (e :: es) X.env = (false, eval e X.env) :: starEach es X.env := by rfl) (hpl : (backTo pos (starEach es X.env)).any (·.1) = false := by rfl) :
    PE X (.Call (.Name x p) (e :: es) [] pos) (tMkE C n mk t) := by
  obtain ⟨fI, fd, hi, tI, F, hb, _⟩ := D.ini
  refine ⟨fun pins s σ H Q I h => ?_⟩
  refine wpAny_Call_Name_kw (ld_glob I hg D.g ?_ hdb)
  refine PySem.W.callWith_K (h₀ := X.base) I.ok.mod.kin D.cl.kC (thn (ha.run pos pins s σ H _ I h) fun us s1 ⟨vs, H1, I1, r, l, q⟩ => ⟨I1.kIn, ?_⟩) he hpl
  refine run_mk (ws := []) (zs := []) b D.cl hi tI F hr (kb_pos hb) I1 r .nil ?_ (fun a => ⟨vs, rfl, l, rfl⟩) q
  rw [List.nil_append, ← r.length, l]
  exact Nat.le_trans hn (by decide)
theorem pe_mk0 (b : Bs B newId initId bmB) (D : Ec X.prog X.w X.K X.mg X.base x C newId bmB ps 0 mk) (hr : Room 2 X.A) (hg : Gl X x := by rfl)
    (hdb : (x == ("__debug__" : Str)) = false := by decide) : PE X (.Call (.Name x p) [] [] pos) (tMkE C 0 mk tNil) := by
  obtain ⟨fI, fd, hi, tI, F, hb, _⟩ := D.ini
  refine ⟨fun pins s σ H Q I h => ?_⟩
  refine wpAny_Call_Name_kw (ld_glob I hg D.g ?_ hdb)
  refine PySem.W.callWith_K0 I.kIn D.cl.kC ?_
  exact run_mk (us := []) (ws := []) (vs := []) (zs := []) b D.cl hi tI F hr (kb_pos hb) I .nil .nil (Nat.zero_le _) (fun a => ⟨[], rfl, rfl, rfl⟩) h.2
/-- C(k = v, ..): all by keywords, the last parameter first -/
def tMkK (C : Addr) (n : Nat) (mk : List V → List (Str × V)) (tk : TA) : TE := fun σ H Q => tk σ H fun zs H1 => zs.length = n ∧ ∀ a H2, H1 a = none → L2.Same H1 H2 → IsExc H2 a C (mk zs.reverse) [] → Q (.ref a) H2
theorem paired_rev {xs : List V} {us : List Value} (r : Vals xs us) : Vals xs.reverse us.reverse := by
  induction r with
  | nil => exact .nil
  | cons h t ih => rw [List.reverse_cons, List.reverse_cons]; exact ih.append (.cons h .nil)
theorem pe_mkK {kws : List Keyword} {tk : TA} (b : Bs B newId initId bmB) (D : Ec X.prog X.w X.K X.mg X.base x C newId bmB ps n mk) (hks2 : ks ++ [("self" : Str)] = ps.reverse) (hr : Room 2 X.A) (hkw : PK X kws tk) (hg : Gl X x := by rfl)
    (hall : (backToKw pos (keywordEach kws X.env)).all (·.1.isSome) = true := by rfl) (hks : (backToKw pos (keywordEach kws X.env)).filterMap (·.1) = ks := by rfl)
    (hdb : (x == ("__debug__" : Str)) = false := by decide) (hpl : ((backTo pos (starEach [] X.env)).any (·.1) || (backToKw pos (keywordEach kws X.env)).any (·.1.isNone)) = false := by rfl) :
    PE X (.Call (.Name x p) [] kws pos) (tMkK C n mk tk) := by
  obtain ⟨fI, fd, hi, tI, F, _, hb⟩ := D.ini
  have hn : ps.length = n + 1 := by
    have z := F.len (.ref 0 :: List.replicate n .non) (upd (fun _ => none) 0 (exo 0 C none 0)) (fun _ _ => True) E0 ⟨0, 0, _, rfl, List.length_replicate, upd_same, fun _ _ _ => trivial⟩
    rw [← z]; simp
  refine ⟨fun pins s σ H Q I h => ?_⟩
  refine wpAny_Call_Name_kw (ld_glob I hg D.g ?_ hdb)
  refine PySem.W.callWith_KW0 (h₀ := X.base) I.ok.mod.kin D.cl.kC hall ?_ hpl
  refine thn (hkw.run pos pins s σ H _ I h) fun ws s2 ⟨zs, H2, I2, rz, l, q2⟩ => ⟨I2.kIn, ?_⟩
  rw [hks]
  have kb : KBinds X.K fd ps ks (fun us ws => if us.length = 1 ∧ ws.length = n then us ++ ws.reverse else []) (fun vs zs => if vs.length = 1 ∧ zs.length = n then vs ++ zs.reverse else []) := by
    refine ⟨fun s us ws _ hl => ?_, fun {vs us zs ws} r rz => ?_⟩
    · by_cases c : us.length = 1 ∧ ws.length = n
      · rw [if_pos c]
        match us, c.1 with
        | [u], _ => exact .of_eq (hb u ws c.2 ks hks2)
      · rw [if_neg c, hn] at hl
        cases hl
    · have e1 : vs.length = us.length := r.length
      have e2 : zs.length = ws.length := rz.length
      show Vals (if vs.length = 1 ∧ zs.length = n then vs ++ zs.reverse else []) (if us.length = 1 ∧ ws.length = n then us ++ ws.reverse else [])
      rw [e1, e2]
      by_cases c : us.length = 1 ∧ ws.length = n
      · rw [if_pos c, if_pos c]; exact r.append (paired_rev rz)
      · rw [if_neg c, if_neg c]; exact .nil
  exact run_mk (us := []) (vs := []) b D.cl hi tI F hr kb I2 .nil rz (Nat.zero_le _) (fun a => ⟨zs.reverse, if_pos ⟨rfl, l⟩, by rw [List.length_reverse]; exact l, rfl⟩) q2
end
end Exv

set_option Elab.async false
set_option linter.all false
set_option maxRecDepth 100000
set_option maxHeartbeats 4000000
namespace PySem
namespace Exv
open PySem.W PySem.Calls PyProof.Rows
section
variable {prog : Program} {w : World} {A : Around} {E : Value → Shared → Prop} {s : Shared} {K : Frag} {x D : Addr} {ox : Obj} {od : Option Obj}
/-- the class of an error, asked as an attribute -/
theorem kin_cls {Q : Option Value → Shared → Prop} (hga : findIn K (.ref D) "__getattribute__" = some (some (.builtin "BaseException.__getattribute__")))
    (hgt : findIn K (.ref D) "__getattr__" = some none) (hsub : subIn K (.ref D) (.type "BaseException") = some true)
    (hf : findObj K D od "__class__" = some (.bind (.builtin "getset_descriptor.__get__") (.builtin "object.__class__"))) (hm : mroIn K D (.type "object") = some true)
    (X : K.In s.heap) (I : InstAt s.heap x ox D od) (h : Q (some (.ref D)) { s with toks := s.toks + 1 }) : wpAny (model prog w) A (getAttr? (.ref x) "__class__") Q E s := by
  obtain ⟨hp, g, d, t, os⟩ := s
  have l0 := I.type (M := model prog w)
  have l1 := looks_findIn (M := model prog w) X hga
  have l2 := looks_findIn (M := model prog w) X hgt
  have l3 := looks_find (M := model prog w) X I hf
  have sub : Looks (model prog w) hp (isInstance (.ref x) (.type "BaseException")) true := l0.andThen (looks_subIn X hsub)
  have z0 : (false && onTheHeap (Value.builtin "BaseException.__getattribute__")) = false := rfl
  have z2 : (Value.builtin "BaseException.__getattribute__" == Value.builtin "object.__getattribute__") = false := by decide +kernel
  have z1 : (onTheHeap (Value.ref D) && Value.builtin "BaseException.__getattribute__" == Value.builtin "object.__getattribute__") = false := by
    rw [z2]
    rfl
  unfold getAttr? getAttrBy? getAttrBy
  refine wpAny_bind (wpAny_mkText (wpAny_bind (wpAny_attempt (wpAny_holding (wpAny_bind (l0.at (wpAny_bind (l1.at ?_))))))))
  show wpAny _ _ (if (onTheHeap (Value.ref D) && Value.builtin "BaseException.__getattribute__" == Value.builtin "object.__getattribute__") = true then _ else _) _ _ _
  rw [z1, if_neg Bool.false_ne_true]
  unfold getAttrByItsOwn hookBefore
  refine wpAny_bind ?_
  rw [if_pos (show onTheHeap (Value.ref D) = true from rfl)]
  refine l2.at ?_
  refine wpAny_bind (wpAny_attempt (wpAny_holding ?_))
  unfold callGetattribute
  rw [z0, if_neg Bool.false_ne_true]
  unfold boundAndCalled
  rw [PySem.F.excAttr_ValueError.ga.bind (.ref x)]
  refine wpAny_bind (wpAny_pure ?_)
  show wpAny _ _ (call (.builtin "BaseException.__getattribute__") [.ref x, .str "__class__" t]) _ _ _
  refine wpAny_call (codeAny_call_builtin PySem.F.excAttr_ValueError.ga.plain PySem.F.entry_bexc_ga ?_)
  refine @check_slot (model prog w) _ _ ⟨hp, g, d, t + 1, os⟩ "BaseException.__getattribute__" "BaseException" "__getattribute__" (.ref x) [.str "__class__" t] [] _
    (by decide +kernel) (by decide +kernel) sub (PySem.F.args_bexc_ga (.ref x) (.str "__class__" t)) ?_
  unfold Builtin.«object.__getattribute__»
  refine wpAny_bind (wpAny_of_eq (a := ((Value.ref x : Value), [Value.str "__class__" t])) (by first | rfl | (simp only [slotArgs]; rfl)) ?_)
  refine wpAny_bind (wpAny_pure (wpAny_bind (l0.at (wpAny_bind (l3.at ?_)))))
  show wpAny _ _ (holding [Value.builtin "object.__class__"] (call (.builtin "getset_descriptor.__get__") [.builtin "object.__class__", .ref x, .ref D]) >>= ret) _ _ _
  refine wpAny_bind (wpAny_holding (wpAny_call (class_get (s := ⟨hp, g, d, t + 1, os⟩) (ox := ox) (od := od) X I hm ?_)))
  refine wpAny_pure ?_
  show wpAny _ _ (handedOut (.ref D)) _ _ _
  rw [handedOut_of (v := .ref D) rfl]
  first
    | exact wpAny_pure (wpAny_pure h)
    | exact wpAny_pure h
    | exact wpAny_pure (wpAny_bind (wpAny_pure (wpAny_pure h)))
theorem kit_exc (hga : findIn K (.ref D) "__getattribute__" = some (some (.builtin "BaseException.__getattribute__")))
    (hgt : findIn K (.ref D) "__getattr__" = some none) (hsub : subIn K (.ref D) (.type "BaseException") = some true) (hd : hasDictIn K D = true)
    (hf : findObj K D od "__class__" = some (.bind (.builtin "getset_descriptor.__get__") (.builtin "object.__class__"))) (hm : mroIn K D (.type "object") = some true) :
    KitX K (.ref x) (.ref D) (fun h => InstAt h x ox D od) where
  ty := fun _ _ _ I => I.type
  it := fun _ _ X _ => by
    obtain ⟨cdD, hcD, _⟩ := any_some hd
    unfold clsIn at hcD
    split at hcD
    · rename_i c' d' cd' sl' ho
      intro A' Q' E' s' k q
      unfold isType loadHead
      exact wpAny_bind (wpAny_loadPart (k _ _ (X _ _ ho)) (wpAny_pure q))
    · cases hcD
  ne := fun h tp dd its n sl X htp => by
    obtain ⟨cdD, hcD, _⟩ := any_some hd
    refine Bool.eq_false_iff.mpr fun q => ?_
    have e : D = tp := Value.ref.inj (beq_iff_eq.mp q)
    subst e
    unfold clsIn at hcD
    split at hcD
    · rename_i c' d' cd' sl' ho
      have z := (X _ _ ho).symm.trans htp
      cases z
    · cases hcD
  ca := fun X I k => kin_cls hga hgt hsub hf hm X I k
end
end Exv
end PySem

namespace Exv
open PySem L2 Lay PyProof.Rows
/-- what isinstance asks of the written part, once -/
structure Gs (K : PySem.W.Frag) : Prop where
  hn : PySem.W.specialIn K (.builtin "object.__class__") "__get__" = some (some (.builtin "getset_descriptor.__get__"))
  ht : PySem.W.takesIn K (.builtin "object.__class__") = some true
/-- a value's kind: those of the library, or an own error -/
inductive TyE (K : PySem.W.Frag) (H : Hp) : V → Value → Prop where
  | base {x : V} {t : Value} (h : TyX K H x t) : TyE K H x t
  | exc {a C : Addr} {fs : List (Str × V)} {args : List V} {newId : String} {bmB : List Value} (h : IsExc H a C fs args) (T : Cl K C newId bmB) : TyE K H (.ref a) (.ref C)
def rIsE (K : PySem.W.Frag) : List V → Hp → VK → Prop := fun xs H Q => ∃ (x c : V) (t u : Value) (b : Bool), xs = [x, c] ∧ ClsV c u ∧ TyE K H x t ∧ PySem.W.kitOne K t u = some b ∧ Q (.bl b) H
/-- e.f, e an error -/
def tAt (K : PySem.W.Frag) (f : Str) (te : TE) : TE := fun σ H Q => te σ H fun x H1 => ∃ (a C : Addr) (fs : List (Str × V)) (args : List V) (v : V), x = .ref a ∧ IsExc H1 a C fs args ∧
  (∃ newId bmB, Cl K C newId bmB) ∧ PySem.W.findIn K (.ref C) f = some none ∧ fs.lookup f = some v ∧ Q v H1
/-- self.f = e, self an error -/
def tSt (K : PySem.W.Frag) (newId : String) (bmB : List Value) (f : Str) (to te : TE) : TS := fun D σ H => te σ H fun y H1 => to σ H1 fun x H2 => ∃ a C t1 : Addr, x = .ref a ∧ Cl K C newId bmB ∧ PySem.W.findIn K (.ref C) f = some none ∧
  ((H2 a = some (exo a C none t1) ∧ ∀ dx, H2 dx = none → dx ≠ a → D.nx σ (upd (upd H2 dx (exd dx [(f, y)])) a (exo a C (some dx) t1))) ∨
    ∃ (dx : Addr) (fs : List (Str × V)), H2 a = some (exo a C (some dx) t1) ∧ H2 dx = some (exd dx fs) ∧ fs.length ≤ 900 ∧ D.nx σ (upd H2 dx (exd dx ((f, y) :: fs))))
section
variable {X : Cx} {o e : Expr} {to te : TE} {f : Str} {p p' pos : Pos} {B newId initId : String} {bmB : List Value}
theorem ps_st (b : Bs B newId initId bmB) (ho : PE X o to) (he : PE X e te) (hs : swapsWith e (some (.Attribute o f p')) pos.line X.env = pure false := by rfl) : PS X (.Assign [.Attribute o f p'] e pos) (tSt X.K newId bmB f to te) := by
  refine ⟨fun pins s σ H D I h => ?_⟩
  refine plainObj_wpAny_Assign_Attribute (thn (he.run pins s σ H _ I h) fun v s1 ⟨y, H1, I1, r1, q1⟩ => thn (ho.run pins s1 σ H1 _ I1 q1) fun u s2 ⟨x, H2, I2, r2, a, C, t1, ex, T, hno, q⟩ => ?_) hs
  subst ex
  obtain rfl : u = Value.ref a := r2
  rcases q with ⟨ea, q⟩ | ⟨dx, fs, ea, ed, hl, q⟩
  · exact st_new b T I2 ea hno r1 fun dx s' n ne J => ⟨σ, _, J, q dx n ne⟩
  · exact st_old b T I2 ea ed hl hno r1 fun s' J => ⟨σ, _, J, q⟩
theorem pe_at (he : PE X e te) (hb : attributeBase e f X.env (eval e X.env) = eval e X.env := by rfl) : PE X (.Attribute e f pos) (tAt X.K f te) := by
  refine ⟨fun pins s σ H Q I h => ?_⟩
  refine attr_of hb (thn (he.run pins s σ H _ I h) fun u s1 ⟨x, H1, I1, rx, a, C, fs, args, v, ex, hx, ⟨newId, bmB, T⟩, hno, hl, q⟩ => ?_)
  subst ex
  obtain rfl : u = Value.ref a := rx
  obtain ⟨t, ht, hx⟩ := hx
  rcases hx with ⟨z, hx⟩ | ⟨d, hx, hd⟩
  · subst z; cases hl
  · exact at_get T I1 hx hd hl hno fun u' s2 ru J => ⟨v, H1, J, ru, q⟩
theorem call_isE (G : Gs X.K) : CallR X (.builtin "isinstance") (rIsE X.K) := by
  intro pins s σ H xs us Q I r h
  obtain ⟨x, c, t, u, b, rfl, k, ty, e, q⟩ := h
  cases ty with
  | base ty => exact call_isi pins s σ H _ us Q I r ⟨x, c, t, u, b, rfl, k, ty, e, q⟩
  | @exc a C fs args newId bmB hx T =>
    obtain ⟨u1, u2, rfl, r1, r2⟩ := vals2 r
    have e2 := k.eq r2
    subst e2
    cases (show u1 = Value.ref a from r1)
    obtain ⟨t, ht, hx⟩ := hx
    have hc : (PySem.W.clsIn X.K C).isSome = true := by
      obtain ⟨cd, bm, h1, _⟩ := T.cd
      rw [h1]; rfl
    rcases hx with ⟨z, hx⟩ | ⟨d, hx, hd⟩
    · have J : PySem.W.InstAt s.heap a _ C none := ⟨exo_at I.hok hx, rfl, rfl, trivial⟩
      exact PySem.W.kia_one (PySem.Exv.kit_exc T.ga T.gg T.exC T.hd (PySem.W.findObj_dataN hc T.ha G.hn G.ht) T.hm) I.kIn J e (fun z => nomatch z) fun tk => ⟨.bl b, H, I.tok tk, rfl, q⟩
    · obtain ⟨mA, hns, rel⟩ := exd_at I.hok hd
      obtain ⟨od, hod, hl⟩ := lookIn_ns hns
      have J : PySem.W.InstAt s.heap a _ C (some od) := ⟨exo_at I.hok hx, rfl, rfl, hod⟩
      exact PySem.W.kia_one (PySem.Exv.kit_exc T.ga T.gg T.exC T.hd (PySem.W.findObj_data hc T.ha G.hn G.ht) T.hm) I.kIn J e (fun z => nomatch z) fun tk => ⟨.bl b, H, I.tok tk, rfl, q⟩
end

/-! ### the three shapes of __init__ -/
def mk0 : List V → List (Str × V) := fun _ => []
def mk1 (f : Str) : List V → List (Str × V)
  | [v] => [(f, v)]
  | _ => []
def mk2 (f g : Str) : List V → List (Str × V)
  | [v, u] => [(g, u), (f, v)]
  | _ => []
section
variable {P : Program} {w : World} {K : PySem.W.Frag} {mg : Str → Option Value} {base : Heap} {C fI : Addr} {fd : FuncData} {qual : Str} {st : Stmt} {B newId initId : String} {bmB : List Value} {f g : Str}
theorem init0 {q : Pos} (F : Fun K "__init__" qual st fI fd) (S : FnScope ["self"] ["self"] (defScope st)) (hb : defBody st = [.Pass q]) : FnOk P w K mg base CX0 1 fI fd ["self"] (spI C 0 mk0) := by
  refine F.ok S (fun vs H Q E h => ?_) (fun cdv A outer s H vs Q E hr h => ?_)
  · obtain ⟨a, t, ws, rfl, l, _⟩ := h
    show ws.length + 1 = 1
    rw [l]
  · obtain ⟨a, t, ws, rfl, l, ha, k⟩ := h
    rw [hb]
    exact ⟨_, pss_one ps_pass, k H (fun _ _ _ e => e) (.inl ⟨rfl, ha⟩)⟩
theorem init1 {q1 q2 q3 q4 : Pos} (b : Bs B newId initId bmB) (F : Fun K "__init__" qual st fI fd) (S : FnScope ["self", f] ["self", f] (defScope st)) (hb : defBody st = [.Assign [.Attribute (.Name "self" q1) f q2] (.Name f q3) q4])
    (hd1 : (f == ("__debug__" : Str)) = false) (hd2 : (f == ("__classdict__" : Str)) = false) (T : Cl K C newId bmB) (no : PySem.W.findIn K (.ref C) f = some none)
    (hsw : ∀ env, swapsWith (.Name f q3) (some (.Attribute (.Name "self" q1) f q2)) q4.line env = pure false) : FnOk P w K mg base CX0 1 fI fd ["self", f] (spI C 1 (mk1 f)) := by
  refine F.ok S (fun vs H Q E h => ?_) (fun cdv A outer s H vs Q E hr h => ?_)
  · obtain ⟨a, t, ws, rfl, l, _⟩ := h
    show ws.length + 1 = 2
    rw [l]
  · obtain ⟨a, t, ws, rfl, l, ha, k⟩ := h
    rw [hb]
    match ws, l with
    | [v], _ =>
      refine ⟨_, pss_one (ps_st b (pe_var (i := 0) rfl ((S.par "self" (List.Mem.head _)).elim .inl fun z => .inr (.inl z))) (pe_var (i := 1) rfl ((S.par f (.tail _ (List.Mem.head _))).elim .inl fun z => .inr (.inl z)) hd1 hd2) (hsw _)), ?_⟩
      refine ⟨v, rfl, .ref a, rfl, a, C, t, rfl, T, no, .inl ⟨ha, fun dx nd ne => ?_⟩⟩
      refine k _ (fun b o n e => ?_) (.inr ⟨dx, upd_same, ?_⟩)
      · rw [upd_ne n, upd_ne (ne_of_none e nd)]; exact e
      · rw [upd_ne ne, upd_same]; rfl
theorem init2 {q1 q2 q3 q4 q5 q6 q7 q8 : Pos} (b : Bs B newId initId bmB) (F : Fun K "__init__" qual st fI fd) (S : FnScope ["self", f, g] ["self", f, g] (defScope st))
    (hb : defBody st = [.Assign [.Attribute (.Name "self" q1) f q2] (.Name f q3) q4, .Assign [.Attribute (.Name "self" q5) g q6] (.Name g q7) q8])
    (hd1 : (f == ("__debug__" : Str)) = false) (hd2 : (f == ("__classdict__" : Str)) = false) (hd3 : (g == ("__debug__" : Str)) = false) (hd4 : (g == ("__classdict__" : Str)) = false)
    (T : Cl K C newId bmB) (no : PySem.W.findIn K (.ref C) f = some none) (no2 : PySem.W.findIn K (.ref C) g = some none)
    (hsw : ∀ env, swapsWith (.Name f q3) (some (.Attribute (.Name "self" q1) f q2)) q4.line env = pure false) (hsw2 : ∀ env, swapsWith (.Name g q7) (some (.Attribute (.Name "self" q5) g q6)) q8.line env = pure false) :
    FnOk P w K mg base CX0 1 fI fd ["self", f, g] (spI C 2 (mk2 f g)) := by
  refine F.ok S (fun vs H Q E h => ?_) (fun cdv A outer s H vs Q E hr h => ?_)
  · obtain ⟨a, t, ws, rfl, l, _⟩ := h
    show ws.length + 1 = 3
    rw [l]
  · obtain ⟨a, t, ws, rfl, l, ha, k⟩ := h
    rw [hb]
    match ws, l with
    | [v, u], _ =>
      have vs := (S.par "self" (List.Mem.head _)).elim (fun z => (.inl z : Vis _ _)) fun z => .inr (.inl z)
      refine ⟨_, pss_cons (ps_st b (pe_var (i := 0) rfl ((S.par "self" (List.Mem.head _)).elim .inl fun z => .inr (.inl z))) (pe_var (i := 1) rfl ((S.par f (.tail _ (List.Mem.head _))).elim .inl fun z => .inr (.inl z)) hd1 hd2) (hsw _))
        (pss_one (ps_st b (pe_var (i := 0) rfl ((S.par "self" (List.Mem.head _)).elim .inl fun z => .inr (.inl z))) (pe_var (i := 2) rfl ((S.par g (.tail _ (.tail _ (List.Mem.head _)))).elim .inl fun z => .inr (.inl z)) hd3 hd4) (hsw2 _))), ?_⟩
      refine ⟨v, rfl, .ref a, rfl, a, C, t, rfl, T, no, .inl ⟨ha, fun dx nd ne => ?_⟩⟩
      refine ⟨u, rfl, .ref a, rfl, a, C, t, rfl, T, no2, .inr ⟨dx, _, upd_same, by rw [upd_ne ne, upd_same], by show 1 ≤ 900; decide, ?_⟩⟩
      refine k _ (fun b o n e => ?_) (.inr ⟨dx, ?_, ?_⟩)
      · rw [upd_ne (ne_of_none e nd), upd_ne n, upd_ne (ne_of_none e nd)]; exact e
      · rw [upd_ne ne.symm, upd_same]
      · rw [upd_same]; rfl
end
end Exv

set_option Elab.async false
set_option linter.all false
set_option maxRecDepth 100000
set_option maxHeartbeats 4000000
namespace PySem
namespace Exv
open Builtin Builtin.Str Builtin.BaseException Builtin.Exceptions
section
variable {prog : Program} {w : World} {A : Around} {E : Value → Shared → Prop} {K : W.Frag} {e C t0 : Addr} {hp : Heap} {g : Array GenState} {d : Drawn} {t : Nat} {os : OsState}
/-- BaseException.__repr__ of an own error that was made of other than one thing -/
theorem bexc_own {b : Nat} {Q : Fin → Shared → Prop} {ox : Obj} {od : Option Obj} {cd : ClassData} {fv : Array Value} {items : List Value} {tt : Str}
    (X : K.In hp) (I : W.InstAt hp e ox C od) (hcd : W.clsIn K C = some cd) (hd : ox.data = .fields fv) (h0 : fv[0]? = some (.ref t0))
    (ht : hp.TupAt t0 items) (hi : items.length ≠ 1) (hb : b + (Str.ofString ((cd.name.toString.cutAt '.').getLastD "")).length ≤ sizeLine)
    (hr : ∀ Q' : Str → Shared → Prop, (∀ h' tk, (∀ b o, hp.get? b = some o → h'.get? b = some o) → Q' tt ⟨h', g, d, tk, os⟩) →
      wpAny (model prog w) A (pyReprUnder (b + (Str.ofString ((cd.name.toString.cutAt '.').getLastD "")).length) (.ref t0)) Q' E ⟨hp, g, d, t, os⟩)
    (hz : (Str.ofString ((cd.name.toString.cutAt '.').getLastD "") ++ tt).length ≤ sizeLine)
    (hq : ∀ h' u tk, (∀ b o, hp.get? b = some o → h'.get? b = some o) → Q (.done (.ret (.str (Str.ofString ((cd.name.toString.cutAt '.').getLastD "") ++ tt) u))) ⟨h', g, d, tk, os⟩) :
    wpAny (model prog w) A (Builtin.bexcReprAt b ⟨[.ref e], []⟩) Q E ⟨hp, g, d, t, os⟩ := by
  have l0 := I.type (M := model prog w)
  have hcls : W.Looks (model prog w) hp (classData C) cd := W.looks_clsIn X hcd
  obtain ⟨ot, k, hto, _, htd⟩ := ht
  unfold Builtin.bexcReprAt typeNameOfWhole shownTypeOf typeNameWhole bexcArgs
  repeat (first
    | with_reducible refine l0.at ?_
    | with_reducible refine hcls.at ?_
    | with_reducible refine wpAny_field I.1 hd h0 ?_
    | with_reducible refine wpAny_seqItems hto htd ?_
    | wp_step)
  have fin : wpAny (model prog w) A (do
      let z ← pyReprUnder (b + (Str.ofString ((cd.name.toString.cutAt '.').getLastD "")).length) (.ref t0)
      retStr (Str.ofString ((cd.name.toString.cutAt '.').getLastD "") ++ z)) Q E ⟨hp, g, d, t, os⟩ := by
    refine wpAny_bind (hr _ fun h' tk kp => ?_)
    repeat wp_step
    exact hq h' _ _ kp
  have e1 : items.toArray.toList = items := by simp
  rw [e1]
  match items, hi with
  | [], _ => exact fin
  | x :: y :: r, _ => exact fin

/-- its text, within another's -/
theorem repr_exc {as : List Addr} {h0 : Heap} {dp : Nat} {ox : Obj} {od : Option Obj} {cd : ClassData} {fv : Array Value} {items : List Value} {ts : List Str}
    (X : K.In h0) (hX : ∀ hh : Heap, (∀ b o, h0.get? b = some o → hh.get? b = some o) → W.InstAt hh e ox C od) (hcd : W.clsIn K C = some cd)
    (hrp : W.findIn K (.ref C) "__repr__" = some (some (.builtin "BaseException.__repr__"))) (hsub : W.subIn K (.ref C) (.type "BaseException") = some true)
    (hd : ox.data = .fields fv) (hf : fv[0]? = some (.ref t0)) (ht : h0.TupAt t0 items) (hi : items.length ≠ 1) (hn : t0 ∉ as)
    (hk : ReprAllK prog w as h0 dp items ts) :
    ReprK prog w (t0 :: as) h0 (dp + 2) (.ref e) (Str.ofString ((cd.name.toString.cutAt '.').getLastD "") ++ tupleText ts) := by
  intro base hb A g E s Q hg hcl hu hk0 hQ
  have hl : base + ((Str.ofString ((cd.name.toString.cutAt '.').getLastD "")).length + (tupleText ts).length) ≤ sizeLine := by
    rw [← strLen_append]; exact hb
  refine wpAny_pyReprUnder_ref (by omega) ?_
  have I := hX _ hk0
  have Xs : K.In s.heap := X.keeps hk0
  have l0 := I.type (M := model prog w)
  have l1 := W.looks_findIn (M := model prog w) Xs hrp
  have bnd : ∀ self, bindSpecial (.builtin "BaseException.__repr__") self = pure (.builtin "BaseException.__repr__", [self]) := F.excStr_ValueError.repr.toG.bind
  have sub : W.Looks (model prog w) s.heap (isInstance (.ref e) (.type "BaseException")) true := l0.andThen (W.looks_subIn Xs hsub)
  obtain ⟨ot, k, hto, htc, htd⟩ := id ht
  have core : wpAny (model prog w) A (call (.builtin "BaseException.__repr__.under") [.ref e, rawInt base])
      (fun v s' => (∃ x u, v = .str x u) ∧ ∃ x u, v = .str x u ∧ Q x s') E s := by
    refine wpAny_call (codeAny_call_builtin F.plain_bexc_repr_under F.entry_bexc_repr_under ?_)
    rw [F.check_bexc_repr_under]
    refine wpAny_pure ?_
    show wpAny _ _ (reprTwin "BaseException.__repr__" Builtin.bexcReprAt ⟨[.ref e, rawInt base], []⟩) _ _ _
    rw [reprTwin_eq]
    refine wpAny_bind (@W.check_slot (model prog w) _ _ s "BaseException.__repr__" "BaseException" "__repr__" (.ref e) [] [] _ (by decide +kernel) (by decide +kernel) sub (F.args_bexc_repr _) ?_)
    obtain ⟨hp, gn, dr, tk, os⟩ := s
    refine bexc_own (K := K) (tt := tupleText ts) Xs I hcd hd hf ⟨ot, k, hk0 _ _ hto, htc, htd⟩ hi (by omega) (fun Q' hq' => ?_) (by rw [strLen_append]; omega) (fun h' u tk kp => ?_)
    · exact ReprK.tuple hto htc htd hn (by simpa using hk) _ (by omega) A.in1 g _ _ Q' (by simpa using hg) hcl (by show A.units + 1 + (dp + 1) < cLine; omega) hk0 fun h' tk kp => hq' h' tk kp
    · exact ⟨⟨_, _, rfl⟩, _, _, rfl, hQ h' tk kp⟩
  unfold pyReprObjUnder pyReprObjBy
  refine wpAny_bind (wpAny_cRoomFor (by omega) ?_)
  unfold specialOf
  refine wpAny_bind (wpAny_bind (l0.at (l1.at ?_)))
  simp only [Option.isNone_some, Bool.false_eq_true, if_false]
  refine wpAny_bind ?_
  simp only [callSpecialIfBoundBy?, bindSpecialIfBound?, specialOf]
  refine wpAny_holding (wpAny_bind (wpAny_bind (wpAny_bind (l0.at (l1.at ?_)))))
  simp only [bnd]
  refine wpAny_bind (wpAny_askSetting (wpAny_ite ?_))
  have fin : wpAny (model prog w) A (call (.builtin "BaseException.__repr__.under") [.ref e, rawInt base] >>= fun v => pure (some v))
      (fun o s' => wpAny (model prog w) A (match o with
        | some r => (do
          let b ← isInstance r (.type "str")
          if b = true then pure r else do
            let z ← typeNameOf r
            raiseErrorMade "TypeError" (toString "__repr__ returned non-string (type " ++ toString z ++ toString ")"))
        | none => unsupported "repr:special-get-raises") (fun v s' => ∃ x u, v = .str x u ∧ Q x s') E s') E s := by
    refine wpAny_bind (wpAny_mono core (fun v s' hv => wpAny_pure ?_) fun _ _ x => x)
    obtain ⟨⟨x, u, rfl⟩, hq⟩ := hv
    exact wpAny_bind (wpAny_isInstance (T := "str") (b := true) rfl isSubtype_str_str (wpAny_pure hq))
  split
  · exact wpAny_bind (wpAny_pure (wpAny_pure fin))
  · exact wpAny_tryCatch (wpAny_bind (wpAny_pure (wpAny_pure fin)))
end
end Exv
end PySem

set_option Elab.async false
set_option linter.all false
set_option maxRecDepth 100000
set_option maxHeartbeats 4000000
namespace Rp
open PySem L2 Lay Exv
/-- what an own error's class tells for its text -/
structure ClR (K : PySem.W.Frag) (C : Addr) (nm : Str) : Prop where
  cl : ∃ newId bmB, Cl K C newId bmB
  cd : ∃ cd, PySem.W.clsIn K C = some cd ∧ Str.ofString ((cd.name.toString.cutAt '.').getLastD "") = nm
  rp : PySem.W.findIn K (.ref C) "__repr__" = some (some (.builtin "BaseException.__repr__"))
mutual
/-- the text of a value, over what is tracked; the containers within -/
inductive Sw (K : PySem.W.Frag) (H : Hp) : List Addr → V → Str → Prop where
  | non : Sw K H [] .non "None"
  | bl (b : Bool) : Sw K H [] (.bl b) (if b then "True" else "False")
  | int (i : Int) (h : i.natAbs.log2 < 1920) : Sw K H [] (.int i) (toString i)
  | str (z : Str) : Sw K H [] (.str z) (reprText z)
  | lst0 {a : Addr} (h : H a = some (.lst [])) : Sw K H [] (.ref a) "[]"
  | lst {a : Addr} {as : List Addr} {x : V} {xs : List V} {ts : List Str} (h : H a = some (.lst (x :: xs))) (l : SwL K H as (x :: xs) ts) (n : a ∉ as) : Sw K H (a :: as) (.ref a) (listText ts)
  | tup {a : Addr} {as : List Addr} {xs : List V} {ts : List Str} (h : H a = some (.tup xs)) (l : SwL K H as xs ts) (n : a ∉ as) : Sw K H (a :: as) (.ref a) (tupleText ts)
  | dct {a : Addr} {as : List Addr} {kvs : List (Key × V)} {ks ts : List Str} (h : H a = some (.dK kvs)) (l1 : SwL K H [] (kvs.map fun p => kV p.1) ks) (l : SwL K H as (kvs.map (·.2)) ts) (n : a ∉ as) :
      Sw K H (a :: as) (.ref a) (dictText ((ks.zip ts).map fun p => p.1 ++ ": " ++ p.2))
  | exc {a C : Addr} {t : Addr} {as : List Addr} {xs : List V} {ts : List Str} {nm : Str} (d : Addr) {fs : List (Str × V)} (h : H a = some (exo a C (some d) t)) (hd : H d = some (exd d fs)) (ht : H t = some (.tup xs)) (R : ClR K C nm) (l : SwL K H as xs ts)
      (n : t ∉ as) (hl : xs.length ≠ 1) : Sw K H (t :: as) (.ref a) (nm ++ tupleText ts)
inductive SwL (K : PySem.W.Frag) (H : Hp) : List Addr → List V → List Str → Prop where
  | nil : SwL K H [] [] []
  | cons {as bs : List Addr} {x : V} {t : Str} {xs : List V} {ts : List Str} (h : Sw K H as x t) (l : SwL K H bs xs ts) : SwL K H (as ++ bs) (x :: xs) (t :: ts)
end
section
variable {P : Program} {w : World} {K : PySem.W.Frag} {H : Hp} {h : Heap}
theorem all_at {as : List Addr} {d : Nat} : ∀ {us : List Value} {ts : List Str}, ReprAllK P w as h d us ts → ∀ (i : Nat) (y : Value), us[i]? = some y → ∃ t, ts[i]? = some t ∧ ReprK P w as h d y t
  | _, _, .nil, i, y, e => by simp at e
  | _, _, .cons r l, 0, y, e => by simp at e; subst e; exact ⟨_, rfl, r⟩
  | _, _, .cons r l, i + 1, y, e => by
    obtain ⟨t, h1, h2⟩ := all_at l i y (by simpa using e)
    exact ⟨t, by simpa using h1, h2⟩
theorem all_more {as as' : List Addr} {d d' : Nat} (hs : ∀ b ∈ as, b ∈ as') (hd : d ≤ d') : ∀ {us : List Value} {ts : List Str}, ReprAllK P w as h d us ts → ReprAllK P w as' h d' us ts
  | _, _, .nil => .nil
  | _, _, .cons r l => .cons ((r.more hs).level_le hd) (all_more hs hd l)
theorem keys_vals : ∀ {es : List DictEntry} {vs : List (Key × Value)} {kvs : List (Key × V)}, Pairs (mixKind P w) es vs → KV kvs vs → Vals (kvs.map fun p => kV p.1) (es.map (·.key)) ∧ Vals (kvs.map (·.2)) (es.map (·.val))
  | _, _, _, .nil, .nil => ⟨.nil, .nil⟩
  | e :: es, (k, v) :: vs, (k', v') :: kvs, .cons h1 h2 l, .cons r rr => by
    obtain ⟨a, b⟩ := keys_vals l rr
    obtain ⟨e1, r1⟩ := r
    have e1' : k' = k := e1
    subst e1'
    refine ⟨.cons ?_ a, .cons (by show RelV v' e.val; rw [h2]; exact r1) b⟩
    have z : keyIs k' e.key = true := h1
    rcases keyIs_shape z with ⟨i, t, rfl, e2⟩ | ⟨x, t, rfl, e2⟩
    · exact ⟨t, e2⟩
    · exact ⟨t, e2⟩
theorem ents {as : List Addr} {d : Nat} : ∀ {es : List DictEntry} {ks ts : List Str}, ReprAllK P w as h d (es.map (·.key)) ks → ReprAllK P w as h d (es.map (·.val)) ts → ReprEntriesK P w as h d es ((ks.zip ts).map fun p => p.1 ++ ": " ++ p.2)
  | [], _, _, .nil, .nil => .nil
  | e :: es, _, _, .cons k1 l1, .cons k2 l2 => .cons k1 k2 (ents l1 l2)
theorem swl_len : ∀ {as : List Addr} {xs : List V} {ts : List Str}, SwL K H as xs ts → xs.length = ts.length
  | _, _, _, .nil => rfl
  | _, _, _, .cons _ l => by rw [List.length_cons, List.length_cons, swl_len l]
theorem mem_l {l1 l2 : List Str} (hl : l1.length = l2.length) {t : Str} (ht : t ∈ l1) : ∃ p ∈ (l1.zip l2).map (fun p => p.1 ++ (": " : Str) ++ p.2), t.length ≤ p.length := by
  obtain ⟨i, hi, e⟩ := List.getElem_of_mem ht
  refine ⟨l1[i] ++ (": " : Str) ++ l2[i], List.mem_map.mpr ⟨(l1[i], l2[i]), List.mem_iff_getElem.mpr ⟨i, by simp; omega, by simp⟩, rfl⟩, ?_⟩
  rw [← e, strLen_append, strLen_append]; omega
theorem mem_r {l1 l2 : List Str} (hl : l1.length = l2.length) {t : Str} (ht : t ∈ l2) : ∃ p ∈ (l1.zip l2).map (fun p => p.1 ++ (": " : Str) ++ p.2), t.length ≤ p.length := by
  obtain ⟨i, hi, e⟩ := List.getElem_of_mem ht
  refine ⟨l1[i] ++ (": " : Str) ++ l2[i], List.mem_map.mpr ⟨(l1[i], l2[i]), List.mem_iff_getElem.mpr ⟨i, by simp; omega, by simp⟩, rfl⟩, ?_⟩
  rw [← e, strLen_append]; omega
mutual
theorem sw_repr (ok : HOk P w H h) (X : K.In h) : ∀ {as : List Addr} {x : V} {t : Str} {u : Value}, Sw K H as x t → RelV x u → t.length ≤ sizeLine → ReprK P w as h (2 * as.length) u t
  | _, _, _, _, .non, r, _ => by cases (show _ = Value.none from r); exact .of_is ReprIs.none _ _ _
  | _, _, _, _, .bl b, r, _ => by cases (show _ = Value.bool b from r); exact .of_is (ReprIs.bool b) _ _ _
  | _, _, _, _, .int i hi, r, _ => by obtain ⟨t, e⟩ := r; subst e; exact .of_is (ReprIs.int t hi) _ _ _
  | _, _, _, _, .str z, r, hz => by obtain ⟨t, e⟩ := r; subst e; exact .of_is (ReprIs.str z t hz) _ _ _
  | _, _, _, _, .lst0 (a := a) e, r, _ => by
    cases (show _ = Value.ref a from r)
    obtain ⟨_, its, n, rv, e1⟩ := (show ObjOk P w H h a (.lst []) from ok a _ e)
    cases rv
    exact ReprK.listEmpty e1 rfl rfl
  | _, _, _, _, .lst (a := a) (as := as) (x := x) (xs := xs) (ts := ts) e l n, r, hz => by
    cases (show _ = Value.ref a from r)
    obtain ⟨_, its, m, rv, e1⟩ := (show ObjOk P w H h a (.lst (x :: xs)) from ok a _ e)
    have al := swl_repr ok X l rv (fun t ht => Nat.le_trans (listText_mem_le ht) hz)
    cases its with
    | nil => cases rv
    | cons y ys =>
      have k := ReprK.list e1 rfl rfl n (by simpa using al.length_eq) (fun i z q => all_at al i z (by simpa using q))
      exact k.level_le (by simp; omega)
  | _, _, _, _, .tup (a := a) (as := as) (xs := xs) (ts := ts) e l n, r, hz => by
    cases (show _ = Value.ref a from r)
    obtain ⟨_, its, rv, o, e1, e2, m, e3⟩ := (show ObjOk P w H h a (.tup xs) from ok a _ e)
    have al := swl_repr ok X l rv (fun t ht => Nat.le_trans (tupleText_mem_le ht) hz)
    have k := ReprK.tuple e1 e2 e3 n (by simpa using al)
    exact k.level_le (by simp; omega)
  | _, _, _, _, .dct (a := a) (as := as) (kvs := kvs) (ks := ks) (ts := ts) e l1 l n, r, hz => by
    cases (show _ = Value.ref a from r)
    obtain ⟨_, sy, vs, kv, ob, es, ep, e1, e2, e3, _, e4, _⟩ := (show ObjOk P w H h a (.dK kvs) from ok a _ e)
    obtain ⟨va, vb⟩ := keys_vals e4 kv
    have ll : ks.length = ts.length := by rw [← swl_len l1, ← swl_len l]; simp
    have a1 := swl_repr ok X l1 va (fun t ht => by
      obtain ⟨p, hp, hl⟩ := mem_l ll ht
      exact Nat.le_trans hl (Nat.le_trans (dictText_mem_le hp) hz))
    have a2 := swl_repr ok X l vb (fun t ht => by
      obtain ⟨p, hp, hl⟩ := mem_r ll ht
      exact Nat.le_trans hl (Nat.le_trans (dictText_mem_le hp) hz))
    have k := ReprK.dict e1 e2.1 e3 sy n (ents (all_more (fun b hb => absurd hb (by simp)) (by simp) a1) a2)
    exact k.level_le (by simp; omega)
  | _, _, _, _, .exc (a := a) (C := C) (t := t) (as := as) (xs := xs) (ts := ts) d e ed et R l n hl, r, hz => by
    cases (show _ = Value.ref a from r)
    obtain ⟨_, its, rv, o, e1, e2, m, e3⟩ := (show ObjOk P w H h t (.tup xs) from ok t _ et)
    obtain ⟨newId, bmB, T⟩ := R.cl
    obtain ⟨cd, hcd, hnm⟩ := R.cd
    subst hnm
    have al := swl_repr ok X l rv (fun t ht => Nat.le_trans (tupleText_mem_le ht) (Nat.le_trans (by rw [strLen_append]; exact Nat.le_add_left _ _) hz))
    have ho := exo_at ok e
    obtain ⟨mA, hns, rel⟩ := exd_at ok ed
    obtain ⟨od, hod, _⟩ := lookIn_ns hns
    have k := PySem.Exv.repr_exc (prog := P) (w := w) (e := a) (C := C) (t0 := t) X (fun hh kp => (⟨kp _ _ ho, rfl, rfl, kp _ _ hod⟩ : PySem.W.InstAt hh a _ C (some od))) hcd R.rp T.exC rfl rfl ⟨o, m, e1, e2, e3⟩ (by rw [← rv.length]; exact hl) n al
    exact k.level_le (by simp; omega)
theorem swl_repr (ok : HOk P w H h) (X : K.In h) : ∀ {as : List Addr} {xs : List V} {ts : List Str} {us : List Value}, SwL K H as xs ts → Vals xs us → (∀ t ∈ ts, t.length ≤ sizeLine) → ReprAllK P w as h (2 * as.length) us ts
  | _, _, _, _, .nil, r, _ => by cases r; exact .nil
  | _, _, _, _, .cons (as := as) (bs := bs) s l, r, hz => by
    cases r with
    | cons rx rr =>
      have k := sw_repr ok X s rx (hz _ (List.mem_cons_self ..))
      have al := swl_repr ok X l rr (fun t ht => hz t (List.mem_cons_of_mem _ ht))
      exact .cons ((k.more fun b hb => List.mem_append_left _ hb).level_le (by simp; omega)) (all_more (fun b hb => List.mem_append_right _ hb) (by simp; omega) al)
end
end
/-- repr of a list of at least one item -/
def rRepr (K : PySem.W.Frag) : List V → Hp → VK → Prop := fun xs H Q => ∃ (p : Addr) (as : List Addr) (ys : List V) (ts : List Str), xs = [.ref p] ∧ H p = some (.lst ys) ∧ SwL K H as ys ts ∧ ys ≠ [] ∧ p ∉ as ∧ as.length ≤ 30 ∧
  (listText ts).length ≤ sizeLine ∧ Q (.str (listText ts)) H
section
variable {X : Cx}
theorem call_repr (hg : X.A.guards = some []) (hu : X.A.units + 200 < cLine) : CallR X (.builtin "repr") (rRepr X.K) := by
  intro pins s σ H xs us Q I r h
  obtain ⟨p, as, ys, ts, rfl, hp, l, ne, hn, ha, hz, q⟩ := h
  obtain ⟨u, rfl, e⟩ := vals1 r
  cases (show u = Value.ref p from e)
  obtain ⟨_, its, m, rv, e1⟩ := (show ObjOk X.prog X.w H s.heap p (.lst ys) from I.hok p _ hp)
  have al := swl_repr I.hok I.kIn l rv (fun t ht => Nat.le_trans (listText_mem_le ht) hz)
  cases its with
  | nil => cases rv; exact absurd rfl ne
  | cons y yr =>
    refine call_repr_slot (by omega) ⟨_, e1, rfl⟩ F.slot_list_repr.toG ?_
    refine call_list_reprK (A := X.A.in1) e1 rfl rfl hn (by simpa using al.length_eq) (fun i z q => all_at al i z (by simpa using q)) (g := []) (by simpa using hg) (fun b _ => Clear.nil b) (by show X.A.units + 1 + (2 * as.length + 1) < cLine; omega)
      (fun _ _ e => e) (fun h' u tk kp => ⟨_, _, rfl, ⟨.str (listText ts), H, I.kept (t' := tk) kp, ⟨_, rfl⟩, q⟩⟩) hz
end
end Rp

set_option Elab.async false
set_option linter.all false
set_option maxRecDepth 100000
set_option maxHeartbeats 4000000
namespace Lay
open PySem L2
/-- a comprehension whose elements are told by themselves -/
theorem lc_pure {J : It} {n : Nat} {G : Hp → Prop} {Y : Nat → Hp → V → Hp → Prop} (wk : Walk J n G Y) {g : TG} {tt : TT} {te : TE} {vs : List Nat} {σ : L2.St} {H1 : Hp} {D : Addr} {Qd : Hp → Prop} (nD : H1 D = none) (hn : n < 100000)
    (hG : ∀ H, L2.Same H1 H → G H) (R : Nat → V → Prop)
    (hs : ∀ i x H H' (Kn : V → Hp → Prop) (Z : Hp → Prop), i < n → L2.Same H1 H → Y i H x H' → (∀ y H4, L2.Same H H4 → R i y → Kn y H4) →
      g x (wipe σ vs) H' fun σ2 H2 => wipe σ2 vs = wipe σ vs ∧ tt σ2 H2 fun b H3 => if b = true then te σ2 H3 Kn else Z H3)
    (hd : ∀ H xs, L2.Same H1 H → H D = some (.lst xs) → xs.length = n → (∀ i y, xs[i]? = some y → R i y) → Qd H) :
    ∃ W : Nat → Nat → Hp → Prop, (∃ m, W 0 m (upd H1 D (.lst []))) ∧ ∀ i m H, W i m H →
      (J.stop i H ∧ Qd H) ∨ (J.go i H ∧ ∃ Nx : Hp → Prop, (∀ H', Nx H' → ∃ m', m' < m ∧ W (i + 1) m' H') ∧ ∀ x H', J.yld i H x H' → g x (wipe σ vs) H' fun σ2 H2 => wipe σ2 vs = wipe σ vs ∧ tt σ2 H2 fun b H3 =>
        if b = true then te σ2 H3 fun y H4 => ∃ acc, H4 D = some (.lst acc) ∧ acc.length < sizeLine ∧ Nx (upd H4 D (.lst (acc ++ [y]))) else Nx H3) := by
  refine lc_it wk (fun i H => L2.Same H1 H ∧ ∃ xs, H D = some (.lst xs) ∧ xs.length = i ∧ ∀ j y, xs[j]? = some y → R j y) ?_ ?_ ?_ ?_
  · exact ⟨Same.new nD, [], upd_same, rfl, fun j y e => by simp at e⟩
  · exact fun i H _ h => hG H h.1
  · intro i x H H' hi ⟨sm, xs, hD, hl, hr⟩ y
    refine hs i x H H' _ _ hi sm y fun v H4 h4 hv => ⟨xs, h4 _ _ hD, by rw [hl]; exact Nat.lt_trans (Nat.lt_trans hi hn) (by decide), ?_⟩
    refine ⟨Same.mut (sm.trans h4) nD, xs ++ [v], upd_same, by simp [hl], fun j y e => ?_⟩
    by_cases hj : j < xs.length
    · rw [List.getElem?_append_left hj] at e
      exact hr j y e
    · rw [List.getElem?_append_right (by omega)] at e
      have hj2 : j - xs.length = 0 := by
        cases hk : j - xs.length with
        | zero => rfl
        | succ m => rw [hk] at e; simp at e
      rw [hj2] at e
      simp at e
      subst e
      have : j = i := by omega
      subst this
      exact hv
  · intro H ⟨sm, xs, hD, hl, hr⟩
    exact hd H xs sm hD hl hr
/-- all elements by a function -/
theorem eq_map {xs : List V} {n : Nat} {f : Nat → V} (hl : xs.length = n) (h : ∀ i y, xs[i]? = some y → y = f i) : xs = (List.range n).map f := by
  apply List.ext_getElem?
  intro i
  by_cases hi : i < n
  · have e := List.getElem?_eq_getElem (show i < xs.length by omega)
    rw [e, h i _ e, List.getElem?_map, List.getElem?_range hi]; rfl
  · rw [List.getElem?_eq_none (by omega), List.getElem?_eq_none (by simp; omega)]
theorem stopW {p : (Nat → Nat → L2.St → Hp → Prop) → Prop} (h : Exists p) : Exists p := h
theorem stopC {p : (Nat → Nat → Hp → Prop) → Prop} (h : Exists p) : Exists p := h
theorem un200 {k : Nat} {B : Around} (hr : Room k B) : B.units + 200 < cLine := by
  have := hr.un
  omega
end Lay

set_option Elab.async false
set_option linter.all false
set_option maxRecDepth 100000
set_option maxHeartbeats 4000000
namespace PySem.W
open PySem PySem.Calls PyProof.Rows Builtin
section
variable {prog : Program} {w : World} {M : Model} {A : Around} {E : Value → Shared → Prop} {s : Shared} {K : Frag} {x C f : Addr} {ox : Obj} {od : Option Obj} {y : Value}
/-- x in o, o of an own class that says it itself -/
theorem own_contains {Q : Bool → Shared → Prop} (X : K.In s.heap) (I : InstAt s.heap x ox C od) (hs : findIn K (.ref C) "__contains__" = some (some (.ref f))) (hf : isFn K (.ref f) = true)
    (h : wpAny M A (call (.ref f) [.ref x, y]) (fun v s' => ∃ b, v = .bool b ∧ Q b s') E s) : wpAny M A (contains (.ref x) y) Q E s := by
  unfold contains
  refine wpAny_holding ?_
  simp only [stdlibNamesSay?]
  refine wpAny_bind (wpAny_bind (I.type.here ((looks_findIn X hs).here ?_)))
  rw [if_neg (by simp)]
  refine wpAny_bind (m := callSpecialUnlessNone? (.ref x) (Str.ofString "__contains__") [y] _) ?_
  unfold callSpecialUnlessNone?
  refine wpAny_bind (wpAny_bind (I.type.here ((looks_findIn X hs).here ?_)))
  refine wpAny_holding (wpAny_bind ((bind_fn X _ (beq_iff_eq.mp hf)).here ?_))
  dsimp only
  rw [if_neg (by simp)]
  refine wpAny_bind (wpAny_mono h (fun v s' hv => ?_) fun _ _ e => e)
  obtain ⟨b, rfl, hq⟩ := hv
  exact wpAny_pure (wpAny_truthy_bool hq)
/-- what own == makes of != -/
theorem own_ne {tb b : Value} {Q : Value → Shared → Prop} (hu : A.units + 1 < cLine) (X : K.In s.heap) (I : InstAt s.heap x ox C od) (hb : Looks (model prog w) s.heap (typeOf b) tb) (hn : notFirst K C tb = true)
    (hs : findIn K (.ref C) "__eq__" = some (some (.ref f))) (hf : isFn K (.ref f) = true) (hne : findIn K (.ref C) "__ne__" = some (some (.builtin "object.__ne__"))) (hm : mroIn K C (.type "object") = some true)
    (h : wpAny (model prog w) A.in1 (call (.ref f) [.ref x, b]) (fun v s' => ∃ r, v = .bool r ∧ Q (.bool (!r)) s') E s) : wpAny (model prog w) A (richCompare .NotEq (.ref x) b) Q E s := by
  have sub : Looks (model prog w) s.heap (isInstance (.ref x) (.type "object")) true := I.type.andThen (looks_mroIn X hm)
  have bnd : ∀ self, bindSpecial (.builtin "object.__ne__") self = pure (.builtin "object.__ne__", [self]) := PySem.F.cmp_object.ne.toG.bind
  have one : wpAny (model prog w) A (tryCompare (.ref x) "__ne__" b) (fun r s' => ∃ v, r = some v ∧ Q v s') E s := by
    unfold tryCompare
    refine wpAny_bind (m := callSpecialIfBound? (.ref x) (Str.ofString "__ne__") [b]) ?_
    simp only [callSpecialIfBound?, bindSpecialIfBound?]
    refine wpAny_holding (wpAny_bind (wpAny_bind (wpAny_bind (I.type.here ((looks_findIn X hne).here ?_)))))
    simp only [bnd]
    have core : wpAny (model prog w) A (call (.builtin "object.__ne__") [.ref x, b]) (fun v s' => ∃ r, v = .bool r ∧ Q (.bool r) s') E s := by
      refine wpAny_call (codeAny_call_builtin PySem.F.cmp_object.ne.plain F.cmpEntry_ne (@check_slot (model prog w) _ _ s "object.__ne__" "object" "__ne__" (.ref x) [b] [] _ F.cmpKind_ne F.cmpSplit_ne sub (F.cmpArgs_ne _ _) ?_))
      unfold Builtin.«object.__ne__»
      refine wpAny_bind (m := slotArgs "__ne__" 1 _) (wpAny_pure ?_)
      refine wpAny_bind (wpAny_cRoomFor hu ?_)
      refine wpAny_bind (m := callSpecialIfBound? (.ref x) (Str.ofString "__eq__") [b]) (ifBound_K X I hs hf (wpAny_mono h (fun v s' hv => ?_) fun _ _ e => e))
      obtain ⟨r, rfl, hq⟩ := hv
      refine wpAny_bind (wpAny_truthy_bool ?_)
      exact wpAny_pure ⟨_, rfl, hq⟩
    have fin : wpAny (model prog w) A (call (.builtin "object.__ne__") ([.ref x] ++ [b]) >>= fun v => pure (some v))
        (fun r s' => wpAny (model prog w) A (match r with | some .notImplemented | none => pure none | some v => pure (some v)) (fun r s' => ∃ v, r = some v ∧ Q v s') E s') E s := by
      refine wpAny_bind (wpAny_mono core (fun v s' hv => wpAny_pure ?_) fun _ _ e => e)
      obtain ⟨r, rfl, hq⟩ := hv
      exact wpAny_pure ⟨_, rfl, hq⟩
    refine wpAny_bind (wpAny_askSetting (wpAny_ite ?_))
    split
    · exact wpAny_bind (wpAny_pure (wpAny_pure fin))
    · exact wpAny_tryCatch (wpAny_bind (wpAny_pure (wpAny_pure fin)))
  unfold richCompare
  simp only [oneThing_ref]
  refine wpAny_holding (wpAny_bind (wpAny_cRoomFor (Nat.lt_of_succ_lt hu) ?_))
  refine wpAny_bind (I.type.here (wpAny_bind (hb.here ?_)))
  split
  · rename_i q
    have e : subIn K tb (.ref C) = some false := by
      rcases Bool.or_eq_true_iff.mp hn with e | e
      · rw [beq_iff_eq.mp e] at q; simp at q
      · exact beq_iff_eq.mp e
    refine wpAny_bind ((looks_subIn X e).here ?_)
    simp only [Bool.false_eq_true, if_false]
    refine wpAny_bind (wpAny_mono one (fun r s' z => ?_) fun _ _ e => e)
    obtain ⟨v, rfl, hq⟩ := z
    exact wpAny_pure hq
  · refine wpAny_bind (wpAny_pure ?_)
    simp only [Bool.false_eq_true, if_false]
    refine wpAny_bind (wpAny_mono one (fun r s' z => ?_) fun _ _ e => e)
    obtain ⟨v, rfl, hq⟩ := z
    exact wpAny_pure hq
end
end PySem.W

set_option Elab.async false
set_option linter.all false
set_option maxRecDepth 100000
set_option maxHeartbeats 4000000
namespace Rp
open PySem L2 Lay Exv
/-- repr of a list, empty or not -/
def rReprE (K : PySem.W.Frag) : List V → Hp → VK → Prop := fun xs H Q => rRepr K xs H Q ∨ ∃ p, xs = [.ref p] ∧ H p = some (.lst []) ∧ Q (.str "[]") H
theorem call_reprE {X : Cx} (hg : X.A.guards = some []) (hu : X.A.units + 200 < cLine) : CallR X (.builtin "repr") (rReprE X.K) := by
  intro pins s σ H xs us Q I r h
  rcases h with h | ⟨p, rfl, hp, q⟩
  · exact call_repr hg hu pins s σ H xs us Q I r h
  · obtain ⟨u, rfl, e⟩ := vals1 r
    cases (show u = Value.ref p from e)
    obtain ⟨_, its, m, rv, e1⟩ := (show ObjOk X.prog X.w H s.heap p (.lst []) from I.hok p _ hp)
    cases rv
    refine call_repr_slot (by omega) ⟨_, e1, rfl⟩ F.slot_list_repr.toG ?_
    exact call_list_repr_empty ⟨_, e1, rfl⟩ e1 rfl ⟨_, _, rfl, ⟨.str "[]", H, I.tok _, ⟨_, rfl⟩, q⟩⟩
end Rp

set_option Elab.async false
set_option linter.all false
set_option maxRecDepth 100000
set_option maxHeartbeats 4000000
namespace Own
open PySem L2 Lay PySem.Spec PyProof.Rows ClX
/-! ### a def called with values by place, no text of an object being made -/
def FnP (P : Program) (w : World) (K : PySem.W.Frag) (mg : Str → Option Value) (base : Heap) (k : Nat) (g : Addr) (sp : Sp) : Prop :=
  ∀ (A : Around) (outer : List Env) (s : Shared) (H : Hp) (us : List Value) (vs : List V) (Q : VK) (E : XK), Room k A → A.guards = some [] → Env0 P w K mg base A outer s H → Vals vs us → sp vs H Q E →
    codeAny (model P w) A (.call (.ref g) ⟨us, []⟩) (CR CX0 outer P w H s Q E) s
section
variable {P : Program} {w : World} {K : PySem.W.Frag} {mg : Str → Option Value} {base : Heap} {j k : Nat} {g : Addr} {fd : FuncData} {ps : List Str} {sp sp' : Sp}
theorem FnP.ofG (F : FnG P w K mg base CX0 k g fd ps sp) (b : Binds K fd ps []) : FnP P w K mg base k g sp := by
  intro A outer s H us vs Q E hr hg e0 r h
  have hl : (us ++ []).length = ps.length := by rw [List.append_nil, ← r.length]; exact F.len _ _ _ _ h
  have b1 := b s us (e0.mod.kin.keeps fun b o e => (e0.bs b o e).1) hl
  rw [List.append_nil] at b1
  exact F.run A outer s H ⟨us, []⟩ us vs Q E hr hg e0 b1 r h
theorem FnP.mono (F : FnP P w K mg base j g sp) (h : j ≤ k) : FnP P w K mg base k g sp := fun A outer s H us vs Q E hr => F A outer s H us vs Q E (hr.mono h)
theorem FnP.imp (F : FnP P w K mg base k g sp) (h : ∀ vs H Q E, sp' vs H Q E → sp vs H Q E) : FnP P w K mg base k g sp' := fun A outer s H us vs Q E hr hg e0 r hs => F A outer s H us vs Q E hr hg e0 r (h _ _ _ _ hs)
/-- def f(a, .., *v) -/
theorem fnP_star {f : Addr} {name qual : Str} {params : Arguments} {body : List Stmt} {scope : Scope} {dV kV doc pm cdv ct oc : Value} {an od : Option Addr} {osl : Array (Option Value)} {N : List Str} {pv : Str}
    (lk : K.lookup f = some ⟨oc, od, .func (PySem.W.fnOf name qual params body scope dV kV doc pm an cdv ct), osl⟩) (hcd : PySem.W.codeIn K cdv qual = true) (S : FnScope N (ps ++ [pv]) scope)
    (hb : ∀ us rest : List Value, us.length = ps.length → bindArgs (PySem.W.fnOf name qual params body scope dV kV doc pm an cdv ct) ⟨us ++ rest, []⟩ = (newTuple rest >>= fun t => pure (ps.zip us ++ [(pv, t)])))
    (hbody : ∀ (A : Around) (outer : List Env) (s : Shared) (H : Hp) (vs : List V) (Q : VK) (E : XK), Room k (A.deeper (envOfC qual scope s.heap.objs.size f cdv)) → A.guards = some [] → sp vs H Q E →
      ∃ t, PSs (cxOf CX0 P w K mg base N qual scope f cdv A outer s H E) body t ∧ t { nx := fun _ H' => Q .non H', rt := Q } (start N vs) H) :
    FnP P w K mg base (k + 1) f (fun vs H Q E => ∃ ws rest, vs = ws ++ rest ∧ ws.length = ps.length ∧ rest.length ≤ sizeLine ∧ ∀ p, H p = Option.none → sp (ws ++ [V.ref p]) (upd H p (.tup rest)) Q E) := by
  intro A outer s H us vs Q E hr hg e0 r hsp
  obtain ⟨ws, rest, ev, hl, hz, hq⟩ := hsp
  subst ev
  obtain ⟨u1, u2, eu, r1, r2⟩ := StX.vals_split r
  subst eu
  have hn : H s.heap.objs.size = Option.none := e0.hok.fresh (Nat.le_refl _)
  have hl1 : u1.length = ps.length := by rw [← r1.length]; exact hl
  have hl2 : u2.length ≤ sizeLine := by rw [← r2.length]; exact hz
  refine StX.run_bnd lk hcd S hr e0 (G := fun xs H2 => ∃ p, H p = Option.none ∧ xs = ws ++ [V.ref p] ∧ H2 = upd H p (.tup rest)) (fun A' Ex Q' h => ?_) fun s2 H2 xs ⟨p, hp, ex, eH⟩ hr' => ?_
  · rw [hb u1 u2 hl1]
    refine wpAny_bind (wpAny_newTuple (wpAny_pure ?_) hl2)
    have new : ObjOk P w (upd H s.heap.objs.size (.tup rest)) (s.heap.push ({ cls := .type "tuple", data := .seq u2.toArray } : Obj)) s.heap.objs.size (.tup rest) := ⟨hz, u2, r2, ⟨_, Heap.get?_push_size _ rfl, rfl, _, rfl⟩⟩
    have un := StX.un_laid (fs := frs outer) (s := s) (o := ({ cls := .type "tuple", data := .seq u2.toArray } : Obj)) (u := .tup rest) hn
    have z := h _ _ (ws ++ [V.ref s.heap.objs.size]) (u1 ++ [Value.ref s.heap.objs.size]) (StX.env0_laid e0 new) un rfl (fun e s' z => z) (r1.append (.cons rfl .nil))
      (by rw [List.length_append, List.length_append, hl] <;> rfl) ⟨_, hn, rfl, rfl⟩
    rw [List.zip_append hl1.symm] at z
    exact z
  · subst ex eH
    exact hbody A outer s2 _ _ Q E hr' hg (hq p hp)
end
section
variable {X : Cx} {k : Nat} {f g C : Addr} {sp : Sp} {pins : List (Addr × Obj)} {σ : L2.St} {H : Hp} {s : Shared} {Q : VK} {us : List Value} {vs : List V}
theorem run_P {A : Around} (F : FnP X.prog X.w X.K X.mg X.base k g sp) (hr : Room k A) (hg : A.guards = some []) (e0 : Env0 X.prog X.w X.K X.mg X.base A X.stack s H) (I : Inv X pins σ H s) (r : Vals vs us) (h : sp vs H Q E0) :
    codeAny (model X.prog X.w) A (.call (.ref g) ⟨us, []⟩) (fun r s' => match r with | .ok (.ret v) => EP X pins σ Q v s' | .ok _ => False | .error x => X.xe x s') s := by
  refine codeAny_mono (F A X.stack s H us vs Q E0 hr hg e0 r h) fun r s' hq => ?_
  cases r with
  | error e => exact False.elim hq
  | ok fl =>
    cases fl with
    | ret u => exact I.after hq
    | next => exact False.elim hq
    | brk => exact False.elim hq
    | cont => exact False.elim hq
theorem g_under {A : Around} {a : Args} (hg : A.guards = some []) : (A.under (.builtin "type.__call__" a)).guards = some [] := by
  have e : Code.isGuard (.builtin "type.__call__" a) = false := by first | rfl | (show List.contains _ _ = false; decide +kernel)
  have e2 : Code.guards (.builtin "type.__call__" a) = [] := by unfold Code.guards; rw [e]; rfl
  have z : (A.under (.builtin "type.__call__" a)).guards = pushGuards (Code.guards (.builtin "type.__call__" a)) A.guards := by unfold Around.under; rfl
  rw [z, e2, hg]; rfl
theorem g_in1 {A : Around} (hg : A.guards = some []) : A.in1.guards = some [] := by simpa using hg
/-! ### making -/
def tMakeP (C : Addr) (sp : Sp) (t : TA) : TE := fun σ H Q => t σ H fun vs H1 => ∀ x dx, H1 x = Option.none → H1 dx = Option.none → dx ≠ x →
  sp (V.ref x :: vs) (upd (upd H1 dx (.own x)) x (.ins C dx [])) (fun v H2 => v = .non ∧ Q (.ref x) H2) E0
theorem run_makeP (M : Mk X.K C f) (F : FnP X.prog X.w X.K X.mg X.base k f sp) (hr : Room (k + 1) X.A) (hg : X.A.guards = some []) (I : Inv X pins σ H s) (r : Vals vs us)
    (h : ∀ x dx, H x = Option.none → H dx = Option.none → dx ≠ x → sp (V.ref x :: vs) (upd (upd H dx (.own x)) x (.ins C dx [])) (fun v H2 => v = .non ∧ Q (.ref x) H2) E0) :
    wpAny (model X.prog X.w) X.A (call (.ref C) us) (EP X pins σ Q) X.xe s := by
  have hq := h (s.heap.objs.size + 1) s.heap.objs.size (I.hok.fresh (Nat.le_succ _)) (I.hok.fresh (Nat.le_refl _)) (Nat.ne_of_lt (Nat.lt_succ_self _))
  have I2 := Inv.made (C := C) I
  have r2 : Vals (V.ref (s.heap.objs.size + 1) :: vs) (Value.ref (s.heap.objs.size + 1) :: us) := .cons rfl r
  refine wpAny_call (make_map (f := f) I.kIn M.makes M.init (beq_iff_eq.mp M.fn) (codeAny_mono (F _ X.stack _ _ (Value.ref (s.heap.objs.size + 1) :: us) _ _ E0 (hr.make C us []) (g_under hg) (I2.env0.make C us []) r2 hq) fun r s' hq' => ?_))
  cases r with
  | error e => exact False.elim hq'
  | ok fl =>
    cases fl with
    | ret u =>
      obtain ⟨v, H', I3, rv, ev, q3⟩ := I2.after hq'
      subst ev
      exact ⟨rv, ⟨V.ref (s.heap.objs.size + 1), H', I3, rfl, q3⟩⟩
    | next => exact False.elim hq'
    | brk => exact False.elim hq'
    | cont => exact False.elim hq'
end
section
variable {X : Cx} {k : Nat} {f g C p : Addr} {mc : Value} {sp : Sp} {x m : Str} {o e : Expr} {es : List Expr} {t ta : TA} {te : TE} {pos apos sp_ p1 : Pos} {pl : Sem Bool}
/-- C(e, ..) -/
theorem pe_makeP (M : Mk X.K C f) (F : FnP X.prog X.w X.K X.mg X.base k f sp) (hr : Room (k + 1) X.A) (hgd : X.A.guards = some []) (hm : X.mg x = some (.ref C)) (ha : PA X (e :: es) t) (hg : Gl X x := by rfl) (hdb : (x == ("__debug__" : Str)) = false := by decide)
    (he : starEach (e :: es) X.env = (false, eval e X.env) :: starEach es X.env := by rfl) (hpl : (backTo pos (starEach es X.env)).any (·.1) = false := by rfl) : PE X (.Call (.Name x p1) (e :: es) [] pos) (tMakeP C sp t) := by
  refine ⟨fun pins s σ H Q I h => ?_⟩
  refine wpAny_Call_Name_kw (ld_glob I hg hm ?_ hdb)
  refine PySem.W.callWith_K (h₀ := X.base) I.ok.mod.kin M.kp (thn (ha.run pos pins s σ H _ I h) fun us s1 ⟨vs, H1, I1, r, q⟩ => ⟨I1.kIn, ?_⟩) he hpl
  exact run_makeP M F hr hgd I1 r q
/-- C(*e) -/
def tStar1 (K : PySem.W.Frag) (te : TE) : TA := fun σ H Q => te σ H fun y H1 => ∃ a xs, y = V.ref a ∧ (SqT K H1 a xs ∨ SqL K H1 a xs) ∧ Q xs H1
theorem pe_makeS (M : Mk X.K C f) (F : FnP X.prog X.w X.K X.mg X.base k f sp) (hr : Room (k + 1) X.A) (hgd : X.A.guards = some []) (hm : X.mg x = some (.ref C)) (he : PE X e te) (hg : Gl X x := by rfl) (hdb : (x == ("__debug__" : Str)) = false := by decide)
    (hst : starEach [.Starred e sp_] X.env = [(true, eval e X.env)] := by rfl) : PE X (.Call (.Name x p1) [.Starred e sp_] [] pos) (tMakeP C sp (tStar1 X.K te)) := by
  refine ⟨fun pins s σ H Q I h => ?_⟩
  refine wpAny_Call_Name_kw (ld_glob I hg hm ?_ hdb)
  refine PySem.W.callWith_S (h₀ := X.base) I.ok.mod.kin M.kp (thn (he.run pins s σ H _ I h) fun v s1 ⟨y, H1, I1, ry, a, xs, ey, hxs, q⟩ => ?_) hst
  subst ey
  obtain rfl : v = Value.ref a := ry
  exact StX.star_any I1 hxs fun us s2 I2 rv => ⟨I2.kIn, run_makeP M F hr hgd I2 rv q⟩
/-! ### methods -/
def tMethP (C : Addr) (m : Str) (sp : Sp) (te : TE) (t : TA) : TE := fun σ H Q => te σ H fun x H1 => ∃ a dx fs, x = .ref a ∧ H1 a = some (.ins C dx fs) ∧ fs.lookup m = none ∧ t σ H1 fun vs H2 => sp (.ref a :: vs) H2 Q E0
/-- o.m() -/
theorem pe_methP0 (he : PE X o te) (c : Cls X.K C) (hm : Meth X.K C m f) (F : FnP X.prog X.w X.K X.mg X.base k f sp) (hr : Room k X.A) (hgd : X.A.guards = some [])
    (ht : eval (.Call (.Attribute o m apos) [] [] pos) X.env = (do
      let ov ← eval o X.env
      standAt apos.atName
      let (f, first) ← holding [ov] (getMethod ov m pl)
      callWith pos f first (backTo pos (starEach [] X.env)) (backToKw pos (keywordEach [] X.env))) := by rfl) :
    PE X (.Call (.Attribute o m apos) [] [] pos) (tMethP C m sp te tNil) := by
  refine ⟨fun pins s σ H Q I h => ?_⟩
  refine PySem.W.methodCall_KW (pl := pl) (thn (he.run pins s σ H _ I h) fun u s1 ⟨x, H1, I1, rx, a, dx, fs, ex, ea, l, q⟩ => ?_) ht
  subst ex
  obtain rfl : u = Value.ref a := rx
  refine getmeth_ok I1 ea c hm l ?_
  exact PySem.W.callWith_K0 (first := [.ref a]) I1.kIn hm.kp (wpAny_call (run_P (us := [.ref a]) (vs := [.ref a]) F hr hgd I1.env0 I1 (.cons rfl .nil) q))
/-- C.m is a staticmethod: its record at p, its def at g -/
structure CSta (K : PySem.W.Frag) (C : Addr) (mc : Value) (m : Str) (p g : Addr) : Prop where
  at_ : PySem.W.findCls K (.ref C) mc m = some (.get (.builtin "staticmethod.__get__") (.ref p) .none (.ref C))
  rc : ∃ rest, PySem.W.recIn K p "staticmethod" = some (.ref g :: rest)
  kp : PySem.W.keepIn K (.ref g) = true
theorem getmethst_ok {pins : List (Addr × Obj)} {σ : L2.St} {H : Hp} {s : Shared} {A : Around} {E : Value → Shared → Prop} {Q : Value × List Value → Shared → Prop} (I : Inv X pins σ H s) (r : CRead X.K C mc) (c : CSta X.K C mc m p g)
    (h : ∀ s', Inv X pins σ H s' → Q (.ref g, []) s') : wpAny (model X.prog X.w) A (getMethod (.ref C) m pl) Q E s := by
  obtain ⟨rest, hp⟩ := c.rc
  refine PySem.W.method_cls I.kIn r.ga (PySem.W.cls_bind I.kIn r.rd c.at_ ?_)
  refine wpAny_call (PySem.W.sm_get (s := { s with toks := s.toks + 1 }) I.kIn hp (PySem.W.handed_on rfl ?_))
  exact h _ (I.tok _)
def tStaP (C : Addr) (sp : Sp) (te : TE) (t : TA) : TE := fun σ H Q => te σ H fun x H1 => x = .ref C ∧ t σ H1 fun vs H2 => sp vs H2 Q E0
/-- C.m(e, ..) -/
theorem pe_staP (he : PE X o te) (r : CRead X.K C mc) (c : CSta X.K C mc m p g) (F : FnP X.prog X.w X.K X.mg X.base k g sp) (hr : Room k X.A) (hgd : X.A.guards = some []) (ha : PA X (e :: es) t)
    (hst : starEach (e :: es) X.env = (false, eval e X.env) :: starEach es X.env := by rfl) (hpl : (backTo pos (starEach es X.env)).any (·.1) = false := by rfl)
    (ht : eval (.Call (.Attribute o m apos) (e :: es) [] pos) X.env = (do
      let ov ← eval o X.env
      standAt apos.atName
      let (f, first) ← holding [ov] (getMethod ov m pl)
      callWith pos f first (backTo pos (starEach (e :: es) X.env)) (backToKw pos (keywordEach [] X.env))) := by rfl) :
    PE X (.Call (.Attribute o m apos) (e :: es) [] pos) (tStaP C sp te t) := by
  refine ⟨fun pins s σ H Q I h => ?_⟩
  refine PySem.W.methodCall_KW (pl := pl) (thn (he.run pins s σ H _ I h) fun u s1 ⟨x, H1, I1, rx, ex, q⟩ => ?_) ht
  subst ex
  obtain rfl : u = Value.ref C := rx
  refine getmethst_ok I1 r c fun s2 I2 => ?_
  refine PySem.W.callWith_K (first := []) (h₀ := X.base) I2.ok.mod.kin c.kp (thn (ha.run pos pins s2 σ H1 _ I2 q) fun us s3 ⟨vs, H2, I3, rv, q2⟩ => ⟨I3.kIn, ?_⟩) hst hpl
  exact wpAny_call (run_P F hr hgd I3.env0 I3 rv q2)
/-- C.m(k = e) -/
theorem pe_staK {fd : FuncData} {q : Str} {kws : List Keyword} {tk : TA} (he : PE X o te) (r : CRead X.K C mc) (c : CSta X.K C mc m p g) (F : FnG X.prog X.w X.K X.mg X.base CX0 k g fd [q] sp) (b : Kw1 fd [q]) (hr : Room k X.A) (hgd : X.A.guards = some [])
    (hkw : PK X kws tk) (hall : (backToKw pos (keywordEach kws X.env)).all (·.1.isSome) = true := by rfl) (hks : (backToKw pos (keywordEach kws X.env)).filterMap (·.1) = [q] := by rfl)
    (hpl : ((backTo pos (starEach [] X.env)).any (·.1) || (backToKw pos (keywordEach kws X.env)).any (·.1.isNone)) = false := by rfl)
    (ht : eval (.Call (.Attribute o m apos) [] kws pos) X.env = (do
      let ov ← eval o X.env
      standAt apos.atName
      let (f, first) ← holding [ov] (getMethod ov m pl)
      callWith pos f first (backTo pos (starEach [] X.env)) (backToKw pos (keywordEach kws X.env))) := by rfl) :
    PE X (.Call (.Attribute o m apos) [] kws pos) (tStaP C sp te tk) := by
  refine ⟨fun pins s σ H Q I h => ?_⟩
  refine PySem.W.methodCall_KW (pl := pl) (thn (he.run pins s σ H _ I h) fun u s1 ⟨x, H1, I1, rx, ex, q⟩ => ?_) ht
  subst ex
  obtain rfl : u = Value.ref C := rx
  refine getmethst_ok I1 r c fun s2 I2 => ?_
  refine PySem.W.callWith_KW0 (h₀ := X.base) I2.ok.mod.kin c.kp hall ?_ hpl
  refine thn (hkw.run pos pins s2 σ H1 _ I2 q) fun ws s3 ⟨zs, H2, I3, rz, q2⟩ => ⟨I3.kIn, ?_⟩
  rw [hks]
  have hl : zs.length = 1 := F.len _ _ _ _ q2
  cases rz with
  | nil => cases hl
  | @cons z u zr ur h1 rest =>
    cases rest with
    | cons _ _ => cases hl
    | nil =>
      have b1 : BindsTo s3 fd ⟨[], [(_, u)]⟩ ([_].zip [u]) := .of_eq (b _ u rfl)
      exact wpAny_call (run_G (us' := [u]) (vs' := [z]) F hr hgd I3 b1 (.cons h1 .nil) q2)
/-! ### properties -/
def tPropP (C : Addr) (sp : Sp) (te : TE) : TE := fun σ H Q => te σ H fun x H1 => ∃ a dx fs, x = .ref a ∧ H1 a = some (.ins C dx fs) ∧ sp [.ref a] H1 Q E0
theorem pe_propP (he : PE X e te) (c : Cls X.K C) (hp : PropOf X.K C m p g) (F : FnP X.prog X.w X.K X.mg X.base k g sp) (hr : Room (k + 1) X.A) (hgd : X.A.guards = some [])
    (hab : attributeBase e m X.env (eval e X.env) = eval e X.env := by rfl) : PE X (.Attribute e m pos) (tPropP C sp te) := by
  refine ⟨fun pins s σ H Q I h => ?_⟩
  refine attr_of hab (thn (he.run pins s σ H _ I h) fun u s1 ⟨x, H1, I1, rx, a, dx, fs, ex, ea, q⟩ => ?_)
  subst ex
  obtain rfl : u = Value.ref a := rx
  obtain ⟨mA, O, _, _, _, _⟩ := ins_get I1.hok ea
  obtain ⟨od, J, _⟩ := O.look
  obtain ⟨rest, hrec⟩ := hp.rec_
  have I2 := I1.tok (s1.toks + 1)
  have hc : (PySem.W.clsIn X.K C).isSome = true := by
    obtain ⟨cd, hc, _⟩ := PySem.W.any_some c.hd
    rw [hc]
    rfl
  refine PySem.W.get_bind I1.kIn J (PySem.W.plainGet_of (c.get m)).1 (PySem.W.findObj_data hc hp.at_ hp.get hp.tak) (PySem.W.plainGet_of (c.get m)).2 (wpAny_call (PySem.W.prop_get (s := { s1 with toks := s1.toks + 1 }) I1.kIn hrec ?_))
  refine codeAny_mono (F X.A.in1 X.stack { s1 with toks := s1.toks + 1 } H1 [.ref a] [.ref a] Q E0 hr.in1 (g_in1 hgd) I2.env0.in1 (.cons rfl .nil) q) fun r s' hq => ?_
  cases r with
  | error er => exact False.elim hq
  | ok fl =>
    cases fl with
    | ret u =>
      obtain ⟨v, H', I3, rv, q3⟩ := I2.after hq
      show wpAny _ _ (handedOut u) _ _ _
      rw [PySem.W.handedOut_of (handed_of rv)]
      exact wpAny_pure ⟨v, H', I3, rv, q3⟩
    | next => exact False.elim hq
    | brk => exact False.elim hq
    | cont => exact False.elim hq
end
end Own

set_option Elab.async false
set_option linter.all false
set_option maxRecDepth 100000
set_option maxHeartbeats 4000000
namespace Own
open PySem L2 Lay PySem.Spec PyProof.Rows SrtO
/-! ### the order of texts, of entries -/
def strLt (x y : Str) : Bool := decide (x.cps.toList < y.cps.toList)
theorem nl_irr : ∀ l : List Nat, ¬ l < l
  | [] => fun h => by cases h
  | a :: l => fun h => by
    cases h with
    | rel h => exact Nat.lt_irrefl _ h
    | cons h => exact nl_irr l h
theorem nl_tr : ∀ {a b c : List Nat}, a < b → b < c → a < c
  | _, _, _, .nil, .rel _ => .nil
  | _, _, _, .nil, .cons _ => .nil
  | _, _, _, .rel h, .rel h' => .rel (Nat.lt_trans h h')
  | _, _, _, .rel h, .cons _ => .rel h
  | _, _, _, .cons _, .rel h => .rel h
  | _, _, _, .cons h, .cons h' => .cons (nl_tr h h')
theorem nl_tri : ∀ a b : List Nat, a < b ∨ a = b ∨ b < a
  | [], [] => .inr (.inl rfl)
  | [], _ :: _ => .inl .nil
  | _ :: _, [] => .inr (.inr .nil)
  | x :: a, y :: b => by
    rcases Nat.lt_trichotomy x y with h | h | h
    · exact .inl (.rel h)
    · subst h
      rcases nl_tri a b with h | h | h
      · exact .inl (.cons h)
      · subst h; exact .inr (.inl rfl)
      · exact .inr (.inr (.cons h))
    · exact .inr (.inr (.rel h))
/-- a strict order of which any two unlike things stand one way -/
structure Tot {α : Type} (lt : α → α → Bool) : Prop where
  irr : ∀ x, lt x x = false
  tr : ∀ x y z, lt x y = true → lt y z = true → lt x z = true
  tri : ∀ x y, lt x y = true ∨ x = y ∨ lt y x = true
theorem Tot.asym {α : Type} {lt : α → α → Bool} (T : Tot lt) {x y : α} (h : lt x y = true) : lt y x = false := by
  cases e : lt y x with
  | false => rfl
  | true => have := T.tr _ _ _ h e; rw [T.irr] at this; cases this
theorem Tot.anti {α : Type} {lt : α → α → Bool} (T : Tot lt) {x y : α} (h1 : lt x y = false) (h2 : lt y x = false) : x = y := by
  rcases T.tri x y with h | h | h
  · rw [h1] at h; cases h
  · exact h
  · rw [h2] at h; cases h
theorem Tot.swo {α : Type} {lt : α → α → Bool} (T : Tot lt) : Swo lt where
  asym := fun x y h => T.asym h
  tr := fun x y z h1 h2 => by
    cases e : lt z x with
    | false => rfl
    | true =>
      rcases T.tri x y with h | h | h
      · have := T.tr _ _ _ e h; rw [h2] at this; cases this
      · subst h; rw [h2] at e; cases e
      · rw [h1] at h; cases h
theorem tot_str : Tot strLt where
  irr := fun x => decide_eq_false (nl_irr _)
  tr := fun x y z h1 h2 => decide_eq_true (nl_tr (of_decide_eq_true h1) (of_decide_eq_true h2))
  tri := fun x y => by
    rcases nl_tri x.cps.toList y.cps.toList with h | h | h
    · exact .inl (decide_eq_true h)
    · refine .inr (.inl ?_)
      obtain ⟨⟨a⟩⟩ := x
      obtain ⟨⟨b⟩⟩ := y
      simp at h
      subst h; rfl
    · exact .inr (.inr (decide_eq_true h))
abbrev Ent := Int × Int × Str
def entLt (p q : Ent) : Bool := if p.1 = q.1 then (if p.2.1 = q.2.1 then strLt p.2.2 q.2.2 else decide (p.2.1 < q.2.1)) else decide (p.1 < q.1)
theorem tot_ent : Tot entLt where
  irr := fun x => by simp [entLt, tot_str.irr]
  tr := fun x y z h1 h2 => by
    unfold entLt at *
    split at h1 <;> split at h2
    · rename_i a b
      rw [if_pos (a.trans b)]
      split at h1 <;> split at h2
      · rename_i c d
        rw [if_pos (c.trans d)]
        exact tot_str.tr _ _ _ h1 h2
      · rename_i c d
        rw [if_neg (by rw [c]; exact d), c]; exact h2
      · rename_i c d
        rw [if_neg (by rw [← d]; exact c), ← d]; exact h1
      · have h1 := of_decide_eq_true h1
        have h2 := of_decide_eq_true h2
        rw [if_neg (by omega)]
        exact decide_eq_true (by omega)
    · rename_i a b
      rw [if_neg (by rw [a]; exact b), a]; exact h2
    · rename_i a b
      rw [if_neg (by rw [← b]; exact a), ← b]; exact h1
    · have h1 := of_decide_eq_true h1
      have h2 := of_decide_eq_true h2
      rw [if_neg (by omega)]
      exact decide_eq_true (by omega)
  tri := fun x y => by
    obtain ⟨a, b, c⟩ := x
    obtain ⟨a', b', c'⟩ := y
    unfold entLt
    by_cases e : a = a'
    · subst e
      by_cases f : b = b'
      · subst f
        simp only [if_true]
        rcases tot_str.tri c c' with h | h | h
        · exact .inl h
        · subst h; exact .inr (.inl rfl)
        · exact .inr (.inr h)
      · have f' : ¬ b' = b := fun z => f z.symm
        simp only [if_true, if_neg f, if_neg f']
        rcases Int.lt_trichotomy b b' with h | h | h
        · exact .inl (decide_eq_true h)
        · exact absurd h f
        · exact .inr (.inr (decide_eq_true h))
    · have e' : ¬ a' = a := fun z => e z.symm
      simp only [if_neg e, if_neg e']
      rcases Int.lt_trichotomy a a' with h | h | h
      · exact .inl (decide_eq_true h)
      · exact absurd h e
      · exact .inr (.inr (decide_eq_true h))
/-! ### sorted lists -/
def Sd {α : Type} (lt : α → α → Bool) (l : List α) : Prop := l.Pairwise fun a b => lt b a = false
theorem sd_uniq {α : Type} {lt : α → α → Bool} (T : Tot lt) : ∀ {l m : List α}, l.Perm m → Sd lt l → Sd lt m → l = m
  | [], m, p, _, _ => by have := p.length_eq; cases m with | nil => rfl | cons _ _ => cases this
  | a :: l, [], p, _, _ => by have := p.length_eq; cases this
  | a :: l, b :: m, p, hl, hm => by
    have h1 := List.pairwise_cons.mp hl
    have h2 := List.pairwise_cons.mp hm
    have e : a = b := by
      have ha : a ∈ b :: m := p.mem_iff.mp (List.mem_cons_self ..)
      have hb : b ∈ a :: l := p.mem_iff.mpr (List.mem_cons_self ..)
      rcases List.mem_cons.mp ha with h | h
      · exact h
      · rcases List.mem_cons.mp hb with h' | h'
        · exact h'.symm
        · exact T.anti (h2.1 a h |> fun z => z) (h1.1 b h')
    subst e
    rw [sd_uniq T (List.Perm.cons_inv p) h1.2 h2.2]
/-! ### tuples that are entries -/
def IsE (h : Heap) (v : Value) (e : Ent) : Prop := ∃ a o t u x n, v = .ref a ∧ h.get? a = some o ∧ o.cls = .type "tuple" ∧ o.data = .seq #[.int e.1 t, .int e.2.1 u, .str e.2.2 x] n
theorem IsE.keeps {h h' : Heap} {v : Value} {e : Ent} (p : IsE h v e) (k : ∀ b o, h.get? b = some o → o.cls = .type "tuple" → h'.get? b = some o) : IsE h' v e := by
  obtain ⟨a, o, t, u, x, n, e, ho, hc, hd⟩ := p
  exact ⟨a, o, t, u, x, n, e, k _ _ ho hc, hc, hd⟩
section
variable {prog : Program} {w : World} {A : Around} {E : Value → Shared → Prop} {s : Shared}
theorem firstsE {h : Heap} : ∀ {vs : List Value}, (∀ v ∈ vs, ∃ e, IsE h v e) → ∃ fs : List Value, PySem.W.KatTups h vs fs ∧ fs.length = vs.length ∧ ∀ f ∈ fs, ∃ x t, f = Value.int x t
  | [], _ => ⟨[], PySem.W.KatTups.nil, rfl, fun _ hm => by simp at hm⟩
  | v :: vs, hp => by
    obtain ⟨fs, h1, h2, h3⟩ := firstsE (vs := vs) fun v' hm => hp v' (List.mem_cons_of_mem _ hm)
    obtain ⟨e, a, o, t, u, x, n, e', ho, hc, hd⟩ := hp v (List.mem_cons_self ..)
    subst e'
    refine ⟨.int e.1 t :: fs, PySem.W.KatTups.cons ho hc hd rfl h1, by rw [List.length_cons, List.length_cons, h2], fun f hm => ?_⟩
    rcases List.mem_cons.mp hm with rfl | hm
    · exact ⟨_, t, rfl⟩
    · exact h3 f hm
theorem ent_cmp {vs : List Value} {k : Value → Ent} (hp : ∀ v ∈ vs, IsE s.heap v (k v)) : Cmp prog w A s (tuples' true) (fun p => p.1 ∈ vs) (lt2 fun v u => entLt (k v) (k u)) := by
  intro p q hm hm'
  have h1 := hp _ hm
  have h2 := hp _ hm'
  show wpAny (model prog w) A (keyLt' (tuples' true) p.1 q.1) (fun r s' => s' = s ∧ r = entLt (k p.1) (k q.1)) (fun _ _ => False) s
  generalize k p.1 = e1 at h1 ⊢
  generalize k q.1 = e2 at h2 ⊢
  obtain ⟨x, y, z⟩ := e1
  obtain ⟨x', y', z'⟩ := e2
  obtain ⟨a, o, t, u, v, n, e, ho, hc, hd⟩ := h1
  obtain ⟨a', o', t', u', v', n', e', ho', hc', hd'⟩ := h2
  rw [e, e']
  refine PySem.W.kat_lt ho hd ho' hd' ?_
  show PySem.W.KatLex prog w A true (decide (3 < 3)) _ [(.int x t, .int x' t'), (.int y u, .int y' u'), (.str z v, .str z' v')] 0 s
  unfold entLt
  dsimp only
  refine PySem.W.kat_cons (SeqAt.EqAt.int_int x t x' t' prog w _ _ ?_)
  refine PySem.W.kat_go (fun e1 => ?_) (fun e1 => ?_)
  · have ex : x = x' := by simpa using e1
    refine PySem.W.kat_yes (PySem.W.kat_cons (SeqAt.EqAt.int_int y u y' u' prog w _ _ ?_))
    refine PySem.W.kat_go (fun e2 => ?_) (fun e2 => ?_)
    · have ey : y = y' := by simpa using e2
      rw [if_pos ex, if_pos ey]
      refine PySem.W.kat_yes (PySem.W.kat_cons (SeqAt.EqAt.str_str z v z' v' prog w _ _ ?_))
      refine PySem.W.kat_go (fun e3 => ?_) (fun e3 => ?_)
      · have ez : z = z' := by simpa using e3
        subst ez
        exact PySem.W.kat_yes (PySem.W.kat_nil ⟨rfl, (tot_str.irr z).symm⟩)
      · refine PySem.W.kat_no (PySem.W.kat_one _ _ (PyProof.Rows.lt_str ?_))
        exact (show s = s ∧ decide (z.cps.toList < z'.cps.toList) = strLt z z' from ⟨rfl, rfl⟩)
    · have ey : ¬ y = y' := by simpa using e2
      rw [if_pos ex, if_neg ey]
      refine PySem.W.kat_no (PySem.W.kat_one _ _ (PyProof.Rows.lt_int ?_))
      exact (show s = s ∧ decide (y < y') = decide (y < y') from ⟨rfl, rfl⟩)
  · have ex : ¬ x = x' := by simpa using e1
    rw [if_neg ex]
    exact PySem.W.kat_no (oneLt_int ⟨rfl, rfl⟩)
theorem ents_sortableO {a : Addr} {vs : List Value} {k : Value → Ent} (h0 : 0 < vs.length) (hp : ∀ v ∈ vs, IsE s.heap v (k v)) (ha : ∀ o, s.heap.get? a = some o → o.cls ≠ .type "tuple") : SortableO prog w A s a vs fun v u => entLt (k v) (k u) := by
  intro h' keep
  have hp' : ∀ v ∈ vs, IsE h' v (k v) := fun v hm => (hp v hm).keeps fun b o e c => keep b o (fun z => by subst z; exact ha o e c) e
  obtain ⟨fs, h1, h2, h3⟩ := firstsE fun v hm => ⟨_, hp' v hm⟩
  refine ⟨tuples' true, fun Q E hq => ?_, ent_cmp hp'⟩
  refine PySem.W.kat_kind (T := .type "int") h1 (by omega) (fun f hm => ?_) (by rfl) ?_
  · obtain ⟨x, t, rfl⟩ := h3 f hm
    exact PySem.W.Looks.now
  · have e : (Value.type "int" != Value.type "tuple") = true := by first | decide +kernel | rfl | decide
    rw [e]
    exact hq
end
end Own

set_option Elab.async false
set_option linter.all false
set_option maxRecDepth 100000
set_option maxHeartbeats 4000000
namespace Gs
open PySem L2 PySem.Spec PyProof.Rows
/-! ### sets of keys of any kind that can be walked: L what was put in -/
section
variable {P : Program} {w : World} {κ : Type} [DecidableEq κ] (knd : PySem.KeyKind P w κ)
/-- the elements and their keys, one by one -/
inductive Al : List (Int × Value) → List κ → Prop where
  | nil : Al [] []
  | cons {e : Int × Value} {k : κ} {es : List (Int × Value)} {ks : List κ} (h : knd.is k e.2 = true ∧ e.1 = knd.hash k ∧ e.2.scannable = true) (r : Al es ks) : Al (e :: es) (k :: ks)
variable {knd}
theorem Al.elems {es : List (Int × Value)} {ks : List κ} (h : Al knd es ks) : ElemsOf knd es := by
  induction h with
  | nil => exact fun e he => by simp at he
  | cons h _ ih =>
    intro e he
    rcases List.mem_cons.mp he with z | z
    · subst z; exact ⟨⟨_, h.1, h.2.1⟩, h.2.2⟩
    · exact ih e z
theorem Al.len {es : List (Int × Value)} {ks : List κ} (h : Al knd es ks) : es.length = ks.length := by
  induction h with
  | nil => rfl
  | cons _ _ ih => rw [List.length_cons, List.length_cons, ih]
theorem Al.has {es : List (Int × Value)} {ks : List κ} (h : Al knd es ks) (k : κ) : k ∈ ks ↔ ∃ e ∈ es, knd.is k e.2 = true := by
  induction h with
  | nil => simp
  | @cons e k' es ks h _ ih =>
    constructor
    · intro hk
      rcases List.mem_cons.mp hk with z | z
      · subst z; exact ⟨e, List.mem_cons_self .., h.1⟩
      · obtain ⟨e', he, q⟩ := ih.mp z; exact ⟨e', List.mem_cons_of_mem _ he, q⟩
    · rintro ⟨e', he, q⟩
      rcases List.mem_cons.mp he with z | z
      · subst z; rw [knd.inj _ _ _ q h.1]; exact List.mem_cons_self ..
      · exact List.mem_cons_of_mem _ (ih.mpr ⟨e', z, q⟩)
theorem Al.perm {es es' : List (Int × Value)} (p : es'.Perm es) : ∀ {ks : List κ}, Al knd es ks → ∃ ks', ks'.Perm ks ∧ Al knd es' ks' := by
  intro ks h
  replace p := p.symm
  revert ks
  induction p with
  | nil => exact fun h => ⟨_, .refl _, h⟩
  | cons x _ ih =>
    intro ks h
    cases h with
    | cons h r =>
      obtain ⟨ks', q, r'⟩ := ih r
      exact ⟨_ :: ks', q.cons _, .cons h r'⟩
  | swap x y l =>
    intro ks h
    cases h with
    | cons h1 r =>
      cases r with
      | cons h2 r => exact ⟨_, List.Perm.swap _ _ _, .cons h2 (.cons h1 r)⟩
  | trans _ _ ih1 ih2 =>
    intro ks h
    obtain ⟨k1, q1, r1⟩ := ih1 h
    obtain ⟨k2, q2, r2⟩ := ih2 r1
    exact ⟨k2, q2.trans q1, r2⟩
variable (knd)
def GS (h : Heap) (a : Addr) (L : List κ) : Prop :=
  ∃ o es ep t ks, h.get? a = some o ∧ o.ExactSet ∧ o.data = .set es ep t ∧ Al knd es.toList ks ∧ ks.Nodup ∧ (∀ k, k ∈ ks ↔ k ∈ L) ∧ ks.length ≤ L.length ∧ es.size < scanBound ∧ t.fits es.size = true ∧ Ris t.place.toList ∧
    (w.params.followText "set-order" = true ∨ t.led = true)
variable {knd} {A : Around} {E : Value → Shared → Prop} {s : Shared} {a : Addr} {L : List κ} {k : κ} {v : Value}
theorem GS.at {h h' : Heap} (G : GS knd h a L) (q : ∀ o, h.get? a = some o → h'.get? a = some o) : GS knd h' a L := by
  obtain ⟨o, es, ep, t, ks, ho, r⟩ := G
  exact ⟨o, es, ep, t, ks, q o ho, r⟩
/-- the element is laid; perhaps all is laid anew -/
theorem gs_lay {g : Bool → Sem Unit} (hg : ∀ (b : Bool) (s₁ : Shared) (Q' : Unit → Shared → Prop), Q' () s₁ → wpAny (model P w) A (g b) Q' E s₁)
    {o : Obj} {es : Array (Int × Value)} {ep : Nat} {t : SetTable} (ho : s.heap.get? a = some o) (hex : o.ExactSet) (hd : o.data = .set es ep t) {es1 : Array (Int × Value)} {t2 : SetTable} {ks : List κ} (al : Al knd es1.toList ks) (nd : ks.Nodup)
    (hm : ∀ k, k ∈ ks ↔ k ∈ L) (hl : ks.length ≤ L.length) (hb : es1.size < scanBound) (hf : t2.fits es1.size = true) (hr : Ris t2.place.toList) (hle : w.params.followText "set-order" = true ∨ t2.led = true) {wasDummy : Bool} {R : Option Bool → Shared → Prop}
    (hR : ∀ h', Heap.SameBut a s.heap h' → GS knd h' a L → R (some true) { s with heap := h' }) :
    wpAny (model P w) A (do
        storeSet a es1 t2
        if (!wasDummy && t2.tooFull) = true then do
            g (relayAll t2 es1 (SetTable.grown es1.size)).2.2
            storeSet a (relayAll t2 es1 (SetTable.grown es1.size)).1 (relayAll t2 es1 (SetTable.grown es1.size)).2.1
            pure (some true)
          else pure (some true)) R E s := by
  have one := store_at (es' := es1) (t' := t2) ho hd
  have sb := Heap.SameBut.update s.heap a (Obj.putSet es1 t2)
  refine wpAny_bind (wpAny_storeSet_of ho hd ?_ (fits_of_scanBound hb))
  by_cases c : (!wasDummy && t2.tooFull) = true
  · rw [if_pos c]
    have pm := relayAll_perm t2 es1 (SetTable.grown es1.size)
    have q1 := relayAll_fits t2 es1 (SetTable.grown es1.size)
    have q2 := relayAll_ris t2 es1 (SetTable.grown es1.size)
    have q3 := relayAll_led t2 es1 (SetTable.grown es1.size)
    revert pm q1 q2 q3
    generalize relayAll t2 es1 (SetTable.grown es1.size) = Z
    obtain ⟨es2, t3, gave⟩ := Z
    intro pm q1 q2 q3
    obtain ⟨ks2, pk, al2⟩ := Al.perm pm al
    have e2 : es2.size = es1.size := by
      have := pm.length_eq
      simpa using this
    have hb2 : es2.size < scanBound := e2 ▸ hb
    refine wpAny_bind (hg _ _ _ (wpAny_bind (wpAny_storeSet_of one rfl (wpAny_pure (hR _ (sb.trans (Heap.SameBut.update _ a _)) ?_)) (fits_of_scanBound hb2))))
    exact ⟨_, es2, _, t3, ks2, store_at (es' := es2) (t' := t3) one rfl, hex, rfl, al2, pk.nodup_iff.mpr nd, fun k => pk.mem_iff.trans (hm k), pk.length_eq ▸ hl, hb2, q1, q2, hle.imp id fun z => q3.trans z⟩
  · rw [if_neg c]
    exact wpAny_pure (hR _ sb ⟨_, es1, _, t2, ks, one, hex, rfl, al, nd, hm, hl, hb, hf, hr, hle⟩)
/-- one more key -/
theorem gs_add (hk : knd.is k v = true) (hsc : v.scannable = true) (hnv : (∃ i u, v = .int i u) ∨ ∃ x u, v = .str x u) {Q : Bool → Shared → Prop} (G : GS knd s.heap a L) (room : L.length + 1 < scanBound)
    (hQ : ∀ b h', Heap.SameBut a s.heap h' → GS knd h' a (k :: L) → Q b { s with heap := h' }) : wpAny (model P w) A (setAddHashed a v (knd.hash k)) Q E s := by
  obtain ⟨o, es, ep, t, ks, ho, hex, hd, al, nd, hm, hl, hb, hf, hr, hle⟩ := G
  have el := al.elems
  unfold setAddHashed setAddHashedIn
  refine wpAny_holding (wpAny_bind (wpAny_setState_of ho hd hf ?_))
  dsimp only
  rw [byScan_of hsc hb el, if_pos rfl]
  unfold setAddByScan
  refine wpAny_bind (wpAny_bind (wpAny_rule (wpAny_bind (wpAny_setScan_of hk ho hd hf el ?_))))
  cases hfi : List.findIdx? (fun e => knd.is k e.2) es.toList with
  | some j =>
    obtain ⟨hj, pj, _⟩ := List.findIdx?_eq_some_iff_getElem.mp hfi
    have hin : k ∈ ks := (al.has k).mpr ⟨_, List.getElem_mem hj, pj⟩
    refine wpAny_pure (wpAny_pure (hQ _ s.heap (Heap.SameBut.refl a s.heap) ⟨o, es, ep, t, ks, ho, hex, hd, al, nd, fun i => ?_, Nat.le_succ_of_le hl, hb, hf, hr, hle⟩))
    rw [hm i, List.mem_cons]
    exact ⟨.inr, fun z => z.elim (fun e => e ▸ (hm k).mp hin) id⟩
  | none =>
    have hno : k ∉ ks := fun z => by
      obtain ⟨e, he, q⟩ := (al.has k).mp z
      have c := List.findIdx?_eq_none_iff.mp hfi e he
      rw [q] at c
      cases c
    have gw : ∀ (b : Bool) {s₁ : Shared} {Q' : Unit → Shared → Prop}, Q' () s₁ → wpAny (model P w) A (match b with | true => rule "set.scan.the-table-gave-way" | false => pure ()) Q' E s₁ := fun b s₁ Q' q => by
      cases b
      · exact wpAny_pure q
      · exact wpAny_rule q
    have pm := layNew_perm t es (knd.hash k) v
    have q1 := layNew_fits t es (knd.hash k) v
    have q2 := layNew_ris t es (knd.hash k) v hr
    have q3 := layNew_led t es (knd.hash k) v
    dsimp only
    revert pm q1 q2 q3
    generalize layNew t es (knd.hash k) v = Z
    obtain ⟨es1, t1, wasDummy, gave⟩ := Z
    intro pm q1 q2 q3
    dsimp only at pm q1 q2 q3 ⊢
    rw [Array.toList_push] at pm
    obtain ⟨ks1, pk, al1⟩ := Al.perm (pm.trans (List.perm_append_singleton _ _)) (Al.cons (knd := knd) (k := k) ⟨hk, rfl, hsc⟩ al)
    have ln : es1.size = ks.length + 1 := by
      have e := al1.len
      rw [pk.length_eq, Array.length_toList] at e
      exact e
    have hb1 : es1.size < scanBound := by rw [ln]; omega
    have nd1 : ks1.Nodup := pk.nodup_iff.mpr (List.nodup_cons.mpr ⟨hno, nd⟩)
    have hm1 : ∀ i, i ∈ ks1 ↔ i ∈ k :: L := fun i => by rw [pk.mem_iff, List.mem_cons, List.mem_cons, hm i]
    have hl1 : ks1.length ≤ (k :: L).length := by rw [pk.length_eq, List.length_cons, List.length_cons]; omega
    have hle1 : w.params.followText "set-order" = true ∨ t1.led = true := hle.imp id fun z => q3.trans z
    refine wpAny_bind (gw _ ?_)
    by_cases c : t1.plain = true
    · rw [if_pos c]
      refine wpAny_bind ?_
      rw [hashByValue_scannable 8 hsc]
      refine wpAny_pure ?_
      refine gs_lay (L := k :: L) (fun b s₁ Q' q => by cases b <;> first | exact wpAny_pure q | exact wpAny_rule q) ho hex hd al1 nd1 hm1 hl1 hb1 ?_ ?_ ?_ fun h' sb r => wpAny_pure (hQ _ h' sb r)
      · first | exact q1 | (split <;> first | exact q1 | exact SetTable.fits_plain_off q1)
      · first | exact q2 | (split <;> exact q2)
      · first | exact hle1 | (split <;> exact hle1)
    · rw [if_neg c]
      refine wpAny_bind (wpAny_pure ?_)
      simp only [↓reduceIte]
      exact gs_lay (L := k :: L) (fun b s₁ Q' q => by cases b <;> first | exact wpAny_pure q | exact wpAny_rule q) ho hex hd al1 nd1 hm1 hl1 hb1 q1 q2 hle1 fun h' sb r => wpAny_pure (hQ _ h' sb r)
end
end Gs

set_option Elab.async false
set_option linter.all false
set_option maxRecDepth 100000
set_option maxHeartbeats 4000000
namespace Gs
open PySem L2 PySem.Spec PyProof.Rows
section
variable {P : Program} {w : World}
theorem al_strs {es : List (Int × Value)} {ks : List Str} (h : Al (PySem.strKind P w) es ks) : StrsAre (es.map (·.2)) ks := by
  induction h with
  | nil => exact .nil
  | cons h _ ih =>
    obtain ⟨t, e⟩ := Value.isStrOf_shape h.1
    rw [List.map_cons, e]
    exact .cons _ t ih
variable {A : Around} {E : Value → Shared → Prop} {s : Shared} {a : Addr} {L : List Str}
/-- sorted(set), a set of texts -/
theorem sorted_gs {Q : Value → Shared → Prop} (G : GS (PySem.strKind P w) s.heap a L) (hh : A.handled = none) (h64 : L.length < 64)
    (hQ : ∀ s' p (out : Array Value) (c : Nat) (ss : List Str), (∀ b o, s.heap.get? b = some o → s'.heap.get? b = some o) → s'.gens = s.gens → s'.os = s.os → s.heap.objs.size ≤ p →
      s'.heap.get? p = some (seqObj "list" out c) → StrsAre out.toList ss → sortedS ss = true → ss.Nodup → (∀ x, x ∈ ss ↔ x ∈ L) → ss.length ≤ L.length → Q (.ref p) s') :
    wpAny (model P w) A (call (.builtin "sorted") [.ref a]) Q E s := by
  obtain ⟨o, es, ep, t, ks, ho, hex, hd, al, nd, hm, hl, hb, hf, hr, hle⟩ := G
  have ste := al_strs al
  refine Calls.call_function_entry kind_sorted plain_sorted entry_sorted (args_sorted1 _) ?_
  unfold Builtin.«sorted»
  refine wpAny_bind (m := checkCount "sorted" 1 1 _) (wpAny_pure ?_)
  refine wpAny_bind (collect_set (A := A.in1) hh ⟨o, ho, hex.1, hd⟩ hf hb hr hle fun s1 vs k1 hz g1 o1 pm => ?_)
  have vlen : vs.length = ks.length := by rw [pm.length_eq, List.length_map, al.len]
  have v64 : vs.length < 64 := by rw [vlen]; omega
  have st1 : StrsAre vs (vs.map strOf) := strsAre_map vs fun v hv => ste.all v (pm.mem_iff.mp hv)
  have pk : (vs.map strOf).Perm ks := by
    have q := pm.map strOf
    rwa [ste.strs] at q
  refine wpAny_bind (wpAny_newList ?_ (Nat.le_trans (Nat.le_of_lt v64) (by rw [sizeLine_eq]; omega)))
  have at1 : (s1.heap.push (seqObj "list" vs.toArray 0)).get? s1.heap.objs.size = some (seqObj "list" vs.toArray 0) := Heap.get?_push_size _ rfl
  refine wpAny_bind (wpAny_holding (wpAny_call_entry slot_list_sort ⟨_, at1, rfl⟩ entry_list_sort (list_sort_treeK strKind_oneLt at1 st1.keysOf (fun v₁ v₂ rest e => keyKind_strs (by rw [← e]; exact st1)) v64 fun st' hp hs => ⟨_, rfl, ?_⟩) (args_list_sort _)))
  obtain ⟨ss, h1, h2, h3⟩ := sorted_out_str st1 hp hs
  obtain ⟨c, hc⟩ := sortedHeap_at (vs := vs) (out := (arrOf st').map (·.2)) at1
  have pn := h2.trans pk
  refine wpAny_pure ⟨_, rfl, hQ _ s1.heap.objs.size _ c ss (fun b u e => ?_) g1 o1 hz hc h1 h3 (pn.nodup_iff.mpr nd) (fun x => pn.mem_iff.trans (hm x)) (pn.length_eq ▸ hl)⟩
  have q := k1 b u e
  have hlt := Heap.lt_size q
  show (sortedHeap (s1.heap.push (seqObj "list" vs.toArray 0)) s1.heap.objs.size vs ((arrOf st').map (·.2))).get? b = some u
  rw [sortedHeap_old (Nat.ne_of_lt hlt) (by rw [size_push']; exact Nat.lt_succ_of_lt hlt)]
  exact Heap.get?_push_of_some _ q
end
section
variable {P : Program} {w : World} {κ : Type} [DecidableEq κ] {knd : PySem.KeyKind P w κ} {A : Around} {E : Value → Shared → Prop} {s : Shared}
/-- a value that tells the key k -/
def Told (knd : PySem.KeyKind P w κ) (k : κ) (v : Value) : Prop := knd.is k v = true ∧ v.scannable = true ∧ ((∃ i u, v = .int i u) ∨ ∃ x u, v = .str x u)
theorem gs_fresh {h : Heap} {a : Addr} (ho : h.get? a = some { cls := .type "set", dict := none, data := .set #[] 0 (.fresh 0 0 (!w.params.followText "set-order")) }) : GS knd h a ([] : List κ) := by
  refine ⟨_, #[], 0, _, [], ho, ⟨rfl, rfl, rfl⟩, rfl, .nil, List.nodup_nil, fun _ => Iff.rfl, Nat.le_refl _, by decide, by rfl, List.Pairwise.nil, ?_⟩
  show _ ∨ (!w.params.followText "set-order") = true
  cases w.params.followText "set-order"
  · exact .inr rfl
  · exact .inl rfl
/-- set.update, key by key -/
theorem gs_loop {I : Addr} {fp wr : List Addr} {G : Array GenState → Array GenState → Prop} {n : Nat} {Pv : Nat → Value → Prop} {St : Nat → Shared → Prop} {R : Result → Shared → Prop} (W : WalksS P w A.in1 I fp wr G n Pv St) (S : Addr) (hSf : S ∉ fp)
    (ks : List κ) (hn : n = ks.length) (hb : ks.length + 1 < scanBound) (hval : ∀ i v, Pv i v → ∃ k, ks[i]? = some k ∧ Told knd k v) :
    ∀ (m i : Nat) (s : Shared) (L : List κ), n - i = m → i ≤ n → St i s → L.length = i → (∀ k, k ∈ L ↔ k ∈ ks.take i) → GS knd s.heap S L →
      (∀ s' L', Moved (S :: wr) G s s' → L'.length = n → (∀ k, k ∈ L' ↔ k ∈ ks) → GS knd s'.heap S L' → R (.ok (.ret .none)) s') → codeAny (model P w) A (.builtin "set.update.loop" ⟨[.ref S, .ref I], []⟩) R s := by
  have hSw : S ∉ wr := fun h => hSf (W.sub _ h)
  have sub : ∀ b ∈ wr, b ∈ S :: wr := fun b hb => List.mem_cons_of_mem _ hb
  intro m
  induction m with
  | zero =>
    intro i s L hm hi st hL hk G hR
    obtain rfl : i = n := by omega
    refine codeAny_builtin F.entry_set_update_loop ?_
    rw [Around.under_plainId F.plain_set_update_loop _]
    refine wpAny_bind (W.done s _ _ st fun s' mv => wpAny_pure (hR s' L (mv.mono sub) hL (fun k => ?_) (G.at fun o e => mv.heap S o hSw e)))
    rw [hk k, List.take_of_length_le (Nat.le_of_eq hn.symm)]
  | succ m ih =>
    intro i s L hm hi st hL hk G hR
    have lt : i < n := by omega
    refine codeAny_builtin F.entry_set_update_loop ?_
    rw [Around.under_plainId F.plain_set_update_loop _]
    refine wpAny_bind (W.item i s _ _ lt st fun v s' pv st' mv => ?_)
    obtain ⟨k, ek, tk⟩ := hval i v pv
    have G' : GS knd s'.heap S L := G.at fun o e => mv.heap S o hSw e
    show wpAny _ A.in1 (holding [v] (setAdd S v) >>= _) _ _ s'
    refine wpAny_bind (wpAny_holding ?_)
    unfold setAdd
    refine wpAny_holding (wpAny_bind (knd.pyHash tk.1 ?_))
    refine gs_add (s := { s' with toks := s'.toks + 1 }) tk.1 tk.2.1 tk.2.2 G' (by omega) fun b h' sb G2 => ?_
    refine wpAny_pure ⟨plainId_quiet F.plain_set_update_loop _, ih (i + 1) _ (k :: L) (by omega) lt (W.frame _ s' _ _ st' (Nat.le_succ _) fun c hc o e => ?_) (by rw [List.length_cons, hL]) (fun j => ?_) G2 fun s2 L2 mv2 l2 k2 g2 => ?_⟩
    · rw [sb.2 c (fun z : c = S => hSf (z ▸ hc))]; exact e
    · rw [List.take_add_one, ek, List.mem_cons, hk j]
      simp [or_comm]
    · refine hR s2 L2 (Moved.trans W.gtrans ((mv.mono sub).then_heap (Nat.le_succ _) fun c o hc e => ?_) mv2) l2 k2 g2
      rw [sb.2 c (fun z : c = S => hc (by rw [z]; exact List.mem_cons_self))]; exact e
end
end Gs

set_option Elab.async false
set_option linter.all false
set_option maxRecDepth 100000
set_option maxHeartbeats 4000000
namespace Gs
open PySem L2 PySem.Spec PyProof.Rows
section
variable {P : Program} {w : World} {κ : Type} [DecidableEq κ] {knd : PySem.KeyKind P w κ} {A : Around} {E : Value → Shared → Prop} {s : Shared}
def emptySet (w : World) : Obj := { cls := .type "set", dict := none, data := .set #[] 0 (.fresh 0 0 (!w.params.followText "set-order")) }
/-- set.__init__ of the new set S by a list -/
theorem init_gs {l S : Addr} {items : Array Value} {ks : List κ} {Q : Value → Shared → Prop} {h : Heap} (hh : A.handled = none) (hl : h.IsList l items) (eS : S = h.objs.size) (hit : ∀ (i : Nat) (v : Value), items[i]? = some v → ∃ k, ks[i]? = some k ∧ Told knd k v) (hn : items.size = ks.length) (hb : ks.length + 1 < scanBound)
    (hQ : ∀ (h' : Heap) (tk : Nat) (L : List κ), (∀ b o, h.get? b = some o → h'.get? b = some o) → GS knd h' S L → (∀ k, k ∈ L ↔ k ∈ ks) → L.length = ks.length → Q .none { s with heap := h', toks := tk }) :
    codeAny (model P w) A (.call (.builtin "set.__init__") ⟨[.ref S, .ref l], []⟩) (wants Q E) { s with heap := h.push (emptySet w) } := by
  subst eS
  have atS : (h.push (emptySet w)).get? h.objs.size = some (emptySet w) := Heap.get?_push_size _ rfl
  refine codeAny_call_builtin F.called_set.init.plain F.entry_set_init (check_set_init_1 ⟨_, atS, rfl⟩ ?_)
  obtain ⟨ol, hol, hcl, nl, hdl⟩ := hl
  obtain ⟨c0, d0, dt0, sl0⟩ := ol
  simp only at hcl hdl
  subst hcl; subst hdl
  have hol' : (h.push (emptySet w)).get? l = some { cls := .type "list", dict := d0, data := .seq items nl, slots := sl0 } := Heap.get?_push_of_some _ hol
  have f1 := F.sub_list_set
  have f2 := F.sub_list_frozenset
  have f3 : (Value.type "list" == Value.type "dict") = false := by decide
  have il : (h.push (emptySet w)).IsList l items := ⟨_, hol', rfl, nl, rfl⟩
  unfold Builtin.«set.__init__» noKeywords Builtin.Frozenset.updateFrom
  generalize hPI : pyIter = PI
  wp_walk
  subst hPI
  refine wpAny_pyIter_list il ?_
  refine wpAny_bind (wpAny_runValue ?_)
  have lt : l < h.objs.size := Heap.lt_size hol
  have sz : (h.push (emptySet w)).objs.size = h.objs.size + 1 := Heap.size_push ..
  have hh3 : A.in1.in1.handled = none := by simp [hh]
  have neI : l ≠ (h.push (emptySet w)).objs.size := by rw [sz]; exact Nat.ne_of_lt (Nat.lt_succ_of_lt lt)
  have nS : h.objs.size ∉ [(h.push (emptySet w)).objs.size, l] := by
    rw [sz]
    simp only [List.mem_cons, List.not_mem_nil, or_false, not_or]
    exact ⟨Nat.ne_of_lt (Nat.lt_succ_self _), Nat.ne_of_gt lt⟩
  refine gs_loop (knd := knd) ((Walks.list hh3 _ l neI items).toS) h.objs.size nS ks hn hb hit (items.size - 0) 0 _ [] (by omega) (Nat.zero_le _) ⟨⟨_, Heap.get?_push_size _ rfl, rfl, rfl⟩, (il.push _)⟩ rfl (fun k => by simp) (gs_fresh (Heap.get?_push_of_some _ atS)) fun s' L mv hL hk G => ?_
  obtain ⟨h', g', dr', tk', os'⟩ := s'
  obtain rfl : g' = s.gens := mv.gens
  obtain rfl : dr' = s.drawn := mv.drawn
  obtain rfl : os' = s.os := mv.os
  refine wpAny_pure ?_
  refine wpAny_pure (hQ h' tk' L (fun b o e => ?_) G hk (hL.trans hn))
  have hb0 := Heap.lt_size e
  refine mv.heap b o ?_ (Heap.get?_push_of_some _ (Heap.get?_push_of_some _ e))
  rw [sz]
  simp only [List.mem_cons, List.not_mem_nil, or_false, not_or]
  exact ⟨Nat.ne_of_lt hb0, Nat.ne_of_lt (Nat.lt_succ_of_lt hb0)⟩
set_option maxHeartbeats 8000000 in
/-- set(l), l a list -/
theorem call_gs {l : Addr} {items : Array Value} {ks : List κ} {Q : Value → Shared → Prop} (hh : A.handled = none) (hl : s.heap.IsList l items) (hit : ∀ (i : Nat) (v : Value), items[i]? = some v → ∃ k, ks[i]? = some k ∧ Told knd k v) (hn : items.size = ks.length) (hb : ks.length + 1 < scanBound)
    (hQ : ∀ (h' : Heap) (tk : Nat) (L : List κ), (∀ b o, s.heap.get? b = some o → h'.get? b = some o) → GS knd h' s.heap.objs.size L → (∀ k, k ∈ L ↔ k ∈ ks) → L.length = ks.length → Q (.ref s.heap.objs.size) { s with heap := h', toks := tk }) :
    wpAny (model P w) A (call (.type "set") [.ref l]) Q E s := by
  obtain ⟨c, tl, hmro⟩ := F.called_set.mro
  have e1 := F.called_set.made
  have e2 := F.called_set.sub
  refine wpAny_call (codeAny_of_tree ?_)
  show wpAny _ _ (callAny (.type "set") _) _ _ _
  refine wpAny_pure ⟨Code.quiet_builtin _ (by decide +kernel), codeAny_builtin F.entry_type_call ?_⟩
  rw [Around.under_plain (weight_type_call_type "set" [.ref l] []) rfl]
  have e3 := F.called_set.notType
  have e4 := F.called_set.canCreate
  have e5 := F.typeCall_set_1 (.ref l)
  repeat (any_goals (first | assumption | wp_step))
  refine codeAny_mono (code_set_led1 (.ref l) (E := E) (Q₁ := fun obj s₁ => obj = .ref s.heap.objs.size ∧ s₁ = { s with heap := s.heap.push (emptySet w) }) ⟨rfl, rfl⟩) fun r s₁ hr => ?_
  cases r with
  | error e => exact hr
  | ok fl =>
    cases fl with
    | ret obj =>
      obtain ⟨rfl, rfl⟩ := hr
      have atS : (s.heap.push (emptySet w)).get? s.heap.objs.size = some (emptySet w) := Heap.get?_push_size _ rfl
      have hT : Shared.TypeIs { s with heap := s.heap.push (emptySet w) } (.ref s.heap.objs.size) "set" := ⟨_, atS, rfl⟩
      have e6 := F.called_set.init.lookup
      have e7 := F.called_set.init.bind (.ref s.heap.objs.size)
      repeat (any_goals (first | assumption | wp_step))
      refine codeAny_mono (init_gs (knd := knd) (ks := ks) (s := s) (h := s.heap) (E := E) (Q := fun r s₂ => r = .none ∧ ∃ h' tk L, s₂ = { s with heap := h', toks := tk } ∧ (∀ b o, s.heap.get? b = some o → h'.get? b = some o) ∧ GS knd h' s.heap.objs.size L ∧ (∀ k, k ∈ L ↔ k ∈ ks) ∧ L.length = ks.length)
        (by simp [hh]) hl rfl hit hn hb fun h' tk L a b c d => ⟨rfl, h', tk, L, rfl, a, b, c, d⟩) fun r₂ s₂ hr₂ => ?_
      cases r₂ with
      | error e => exact hr₂
      | ok fl₂ =>
        cases fl₂ with
        | ret r =>
          obtain ⟨rfl, h', tk, L, rfl, a, b, c, d⟩ := hr₂
          repeat (any_goals (first | assumption | wp_step))
          exact hQ h' tk L a b c d
        | _ => exact hr₂.elim
    | _ => exact hr.elim
end
/-! ### sorted(set(l)), l a list of texts -/
def rSetS (K : PySem.W.Frag) (P : Program) (w : World) : List V → Hp → VK → Prop := fun xs H Q => ∃ (l : Addr) (ss : List Str), xs = [.ref l] ∧ SqL K H l (ss.map V.str) ∧ ss.length < 60 ∧
  ∀ p L, H p = none → (∀ x, x ∈ L ↔ x ∈ ss) → L.length = ss.length → Q (.ref p) (upd H p (.ext fun h => GS (PySem.strKind P w) h p L))
section
variable {X : Cx}
theorem gs_ok {P : Program} {w : World} {H : Hp} {h : Heap} {a : Addr} {L : List Str} (G : GS (PySem.strKind P w) h a L) : ObjOk P w H h a (.ext fun h => GS (PySem.strKind P w) h a L) := by
  obtain ⟨o, es, ep, t, ks, ho, r⟩ := G
  exact ⟨⟨o, es, ep, t, ks, ho, r⟩, ⟨o, ho⟩, fun h1 h2 G k => G.at fun o e => k _ e⟩
theorem cr_setS (hc : X.calm = true) : CallR X (.type "set") (rSetS X.K X.prog X.w) := by
  intro pins s σ H xs us Q I r h
  obtain ⟨l, ss, rfl, hs, hl, q⟩ := h
  obtain ⟨its, rv, il, hz⟩ := I.list hs
  obtain ⟨u, rfl, ru⟩ := vals1 r
  obtain rfl : u = Value.ref l := ru
  have st := rv.strs
  have ln : its.length = ss.length := by rw [← rv.length, List.length_map]
  refine call_gs (knd := PySem.strKind X.prog X.w) (ks := ss) (items := its.toArray) (I.ok.hd hc) il.isList (fun i v e => ?_) (by simpa using ln) (by unfold scanBound; omega) fun h' tk L kp G hm hL => ?_
  · have hi : i < ss.length := by
      have := (Array.getElem?_eq_some_iff.mp e).1
      simp at this; omega
    obtain ⟨t, ev⟩ := SS.strs_at st i v (by simpa using e)
    refine ⟨ss[i], List.getElem?_eq_getElem hi, ?_⟩
    have e2 : ss.getD i Str.empty = ss[i] := by simp [List.getD, hi]
    rw [ev, e2]
    exact ⟨strKind_is _ _ _ _, rfl, .inr ⟨_, _, rfl⟩⟩
  · have hn : H s.heap.objs.size = none := I.hok.fresh (Nat.le_refl _)
    exact ⟨.ref s.heap.objs.size, _, I.laid (t' := tk) kp (Nat.le_refl _) (gs_ok G), rfl, q _ L hn hm hL⟩
def rSortS (P : Program) (w : World) : List V → Hp → VK → Prop := fun xs H Q => ∃ (a : Addr) (L : List Str), xs = [.ref a] ∧ H a = some (.ext fun h => GS (PySem.strKind P w) h a L) ∧ L.length < 60 ∧
  ∀ (ss : List Str) (p : Addr), sortedS ss = true → ss.Nodup → (∀ x, x ∈ ss ↔ x ∈ L) → ss.length ≤ L.length → H p = none → Q (.ref p) (upd H p (.lst (ss.map V.str)))
theorem cr_sortS (hc : X.calm = true) : CallR X (.builtin "sorted") (rSortS X.prog X.w) := by
  intro pins s σ H xs us Q I r h
  obtain ⟨a, L, rfl, ha, hl, q⟩ := h
  obtain ⟨u, rfl, ru⟩ := vals1 r
  obtain rfl : u = Value.ref a := ru
  have G : GS (PySem.strKind X.prog X.w) s.heap a L := (I.hok a _ ha).1
  refine sorted_gs G (I.ok.hd hc) (by omega) fun s' p out c ss k g o hp hg hi hs nd hm hl' => ?_
  have hlen : (ss.map V.str).length ≤ sizeLine := by rw [List.length_map, sizeLine_eq]; omega
  have hn : H p = none := I.hok.fresh hp
  have J : Inv X pins σ (upd H p (.lst (ss.map V.str))) { s with heap := s'.heap, gens := s'.gens, drawn := s'.drawn, toks := s'.toks } :=
    I.call (ch := []) (Un.laid k hp hn) (I.hok.laid k hp ⟨hlen, out.toList, c, vals_of_strs hi, hg⟩) (by rw [g]; exact I.bare) (fun _ z => nomatch z)
  have e : s' = { s with heap := s'.heap, gens := s'.gens, drawn := s'.drawn, toks := s'.toks } := by
    obtain ⟨_, _, _, _, _⟩ := s'
    obtain ⟨_, _, _, _, _⟩ := s
    cases o
    rfl
  rw [e]
  exact ⟨.ref p, _, J, rfl, q ss p hs nd hm hl' hn⟩
end
end Gs

set_option Elab.async false
set_option linter.all false
set_option maxRecDepth 100000
set_option maxHeartbeats 4000000
namespace Own
open PySem L2 Lay PySem.Spec PyProof.Rows ClX
/-! ### lists of entries -/
/-- x is a tuple that is the entry e -/
def EntT (H : Hp) (x : V) (e : Ent) : Prop := ∃ t, x = .ref t ∧ H t = some (.tup [.int e.1, .int e.2.1, .str e.2.2])
inductive EL (H : Hp) : List V → List Ent → Prop where
  | nil : EL H [] []
  | cons {x : V} {e : Ent} {xs : List V} {es : List Ent} (h : EntT H x e) (r : EL H xs es) : EL H (x :: xs) (e :: es)
section
variable {H H' : Hp} {x y : V} {e f : Ent} {xs ys : List V} {es fs : List Ent}
theorem EntT.same (h : EntT H x e) (s : Same H H') : EntT H' x e := by
  obtain ⟨t, rfl, h⟩ := h
  exact ⟨t, rfl, s _ _ h⟩
theorem EntT.fn (h : EntT H x e) (h' : EntT H x f) : e = f := by
  obtain ⟨t, rfl, h⟩ := h
  obtain ⟨t', z, h'⟩ := h'
  cases z
  rw [h] at h'
  obtain ⟨a, b, c⟩ := e
  obtain ⟨a', b', c'⟩ := f
  simp only [Option.some.injEq, HO.tup.injEq, List.cons.injEq, V.int.injEq, V.str.injEq, and_true] at h'
  obtain ⟨rfl, rfl, rfl⟩ := h'
  rfl
theorem EL.same (h : EL H xs es) (s : Same H H') : EL H' xs es := by
  induction h with
  | nil => exact .nil
  | cons h _ ih => exact .cons (h.same s) ih
theorem EL.len (h : EL H xs es) : xs.length = es.length := by
  induction h with
  | nil => rfl
  | cons _ _ ih => rw [List.length_cons, List.length_cons, ih]
theorem EL.app (h : EL H xs es) (g : EL H ys fs) : EL H (xs ++ ys) (es ++ fs) := by
  induction h with
  | nil => exact g
  | cons h _ ih => exact .cons h ih
theorem EL.at (h : EL H xs es) {i : Nat} (q : xs[i]? = some x) : ∃ e, es[i]? = some e ∧ EntT H x e := by
  induction h generalizing i with
  | nil => simp at q
  | cons h _ ih =>
    cases i with
    | zero => simp at q; subst q; exact ⟨_, rfl, h⟩
    | succ i => simp at q; obtain ⟨e, h1, h2⟩ := ih q; exact ⟨e, by simpa using h1, h2⟩
theorem EL.of_at (n : xs.length = es.length) (h : ∀ (i : Nat) (x : V) (e : Ent), xs[i]? = some x → es[i]? = some e → EntT H x e) : EL H xs es := by
  induction xs generalizing es with
  | nil => cases es with | nil => exact .nil | cons _ _ => cases n
  | cons x xs ih =>
    cases es with
    | nil => cases n
    | cons e es => exact .cons (h 0 _ _ rfl rfl) (ih (Nat.succ.inj n) fun i x e a b => h (i + 1) x e a b)
theorem EL.mem (h : EL H xs es) (q : x ∈ xs) : ∃ e ∈ es, EntT H x e := by
  obtain ⟨i, hi⟩ := List.mem_iff_getElem?.mp q
  obtain ⟨e, h1, h2⟩ := h.at hi
  exact ⟨e, List.mem_of_getElem? h1, h2⟩
theorem EL.take (h : EL H xs es) (n : Nat) : EL H (xs.take n) (es.take n) := by
  induction h generalizing n with
  | nil => simp; exact .nil
  | cons h _ ih =>
    cases n with
    | zero => simp; exact .nil
    | succ n => simp; exact .cons h (ih n)
theorem EL.drop (h : EL H xs es) (n : Nat) : EL H (xs.drop n) (es.drop n) := by
  induction h generalizing n with
  | nil => simp; exact .nil
  | cons h r ih =>
    cases n with
    | zero => simp; exact .cons h r
    | succ n => simp; exact ih n
/-- what the heap says of a tuple -/
def entOf (H : Hp) : V → Ent
  | .ref t => match H t with
    | some (.tup [.int a, .int b, .str c]) => (a, b, c)
    | _ => (0, 0, "")
  | _ => (0, 0, "")
theorem EntT.of (h : EntT H x e) : entOf H x = e := by
  obtain ⟨t, rfl, h⟩ := h
  show (match H t with | some (.tup [.int a, .int b, .str c]) => (a, b, c) | _ => (0, 0, "")) = e
  rw [h]
theorem EL.map (h : EL H xs es) : es = xs.map (entOf H) := by
  induction h with
  | nil => rfl
  | cons h _ ih => rw [List.map_cons, h.of, ← ih]
theorem EL.of_map (h : ∀ x ∈ xs, EntT H x (entOf H x)) : EL H xs (xs.map (entOf H)) := by
  induction xs with
  | nil => exact .nil
  | cons x xs ih => exact .cons (h x (List.mem_cons_self ..)) (ih fun y hy => h y (List.mem_cons_of_mem _ hy))
theorem EL.ents (h : EL H xs es) : ∀ x ∈ xs, EntT H x (entOf H x) := fun x hx => by
  obtain ⟨e, _, q⟩ := h.mem hx
  rw [q.of]; exact q
theorem EL.perm (h : EL H xs es) (p : ys.Perm xs) : EL H ys (ys.map (entOf H)) ∧ (ys.map (entOf H)).Perm es := by
  refine ⟨.of_map fun y hy => h.ents y (p.mem_iff.mp hy), ?_⟩
  rw [h.map]
  exact p.map _
end
/-! ### < and sorted -/
/-- what x < y says -/
inductive Cm (H : Hp) : V → V → Bool → Prop where
  | ent {x y : V} {e f : Ent} (h : EntT H x e) (g : EntT H y f) : Cm H x y (entLt e f)
  | str (a b : Str) : Cm H (.str a) (.str b) (strLt a b)
section
variable {X : Cx}
theorem isE_of {pins : List (Addr × Obj)} {σ : L2.St} {H : Hp} {s : Shared} {x : V} {u : Value} {e : Ent} (I : Inv X pins σ H s) (r : RelV x u) (h : EntT H x e) : IsE s.heap u e := by
  obtain ⟨t, rfl, h⟩ := h
  cases (show u = Value.ref t from r)
  obtain ⟨_, its, rv, o, ho, hc, n, hd⟩ := (show ObjOk X.prog X.w H s.heap t (.tup _) from I.hok t _ h)
  cases rv with
  | cons r1 rv =>
    cases rv with
    | cons r2 rv =>
      cases rv with
      | cons r3 rv =>
        cases rv
        obtain ⟨t1, rfl⟩ := r1
        obtain ⟨t2, rfl⟩ := r2
        obtain ⟨t3, rfl⟩ := r3
        exact ⟨t, o, t1, t2, t3, n, rfl, ho, hc, hd⟩
def rLtV : R2 := fun x y H Q => ∃ b, Cm H x y b ∧ Q (.bl b) H
theorem op_ltV (hu : X.A.units < cLine) : OpR X (compareOp .Lt) rLtV := by
  intro pins s σ H x y v u Q I rx ry h
  obtain ⟨b, c, q⟩ := h
  cases c with
  | str a b => exact op_lt_str pins s σ H _ _ v u Q I rx ry ⟨a, b, rfl, rfl, q⟩
  | @ent x y e f h g =>
    obtain ⟨a, o, t1, t2, t3, n, rfl, ho, hc, hd⟩ := isE_of I rx h
    obtain ⟨a', o', u1, u2, u3, n', rfl, ho', hc', hd'⟩ := isE_of I ry g
    obtain ⟨x1, x2, x3⟩ := e
    obtain ⟨y1, y2, y3⟩ := f
    have R := Ob.RcOp.tuples_lt (A := X.A) (s := s) (e := fun j => match j with | 0 => decide (x1 = y1) | 1 => decide (x2 = y2) | _ => decide (x3 = y3)) (r := fun j => match j with | 0 => decide (x1 < y1) | 1 => decide (x2 < y2) | _ => strLt x3 y3)
      ⟨o, ho, hc, n, hd⟩ ⟨o', ho', hc', n', hd'⟩ hu (fun j h1 h2 => ?_) (fun j h1 h2 _ => ?_)
    · have z : wpAny (model X.prog X.w) X.A (compareOp .Lt (.ref a) (.ref a')) (EP X pins σ Q) X.xe s := by
        refine R X.prog X.w X.xe (EP X pins σ Q) ?_
        refine ⟨.bl (entLt (x1, x2, x3) (y1, y2, y3)), H, I, ?_, q⟩
        show Value.bool _ = Value.bool _
        congr 1
        show Ob.lexAt _ _ (decide (3 < 3)) 0 3 = _
        simp only [Ob.lexAt, entLt]
        by_cases c1 : x1 = y1
        · by_cases c2 : x2 = y2
          · by_cases c3 : x3 = y3
            · subst c3; simp [c1, c2, tot_str.irr]
            · simp [c1, c2, c3]
          · simp [c1, c2]
        · simp [c1]
      exact z
    · have bq : ∀ {α : Type} [DecidableEq α] (p q : α), (p == q) = decide (p = q) := fun p q => by
        by_cases z : p = q
        · rw [decide_eq_true z]; exact beq_iff_eq.mpr z
        · rw [decide_eq_false z]; exact beq_eq_false_iff_ne.mpr z
      match j, h1, h2 with
      | 0, _, _ => show SeqAt.EqAt _ _ (.int x1 t1) (.int y1 u1) (decide (x1 = y1)); rw [← bq]; exact SeqAt.EqAt.int_int _ _ _ _
      | 1, _, _ => show SeqAt.EqAt _ _ (.int x2 t2) (.int y2 u2) (decide (x2 = y2)); rw [← bq]; exact SeqAt.EqAt.int_int _ _ _ _
      | 2, _, _ =>
        show SeqAt.EqAt _ _ (.str x3 t3) (.str y3 u3) (decide (x3 = y3))
        have z := SeqAt.EqAt.str_str (A := X.A.in1) (s := s) x3 t3 y3 u3
        have e : (x3 == y3) = decide (x3 = y3) := by
          by_cases c : x3 = y3
          · subst c; simp
          · rw [decide_eq_false c]; exact beq_eq_false_iff_ne.mpr c
        rw [e] at z; exact z
      | j + 3, h1, _ => exact absurd h1 (by simp)
    · match j, h1, h2 with
      | 0, _, _ => exact Ob.RcOp.lt_int _ _ _ _
      | 1, _, _ => exact Ob.RcOp.lt_int _ _ _ _
      | 2, _, _ => exact fun prog w E Q hq => PyProof.Rows.lt_str hq
      | j + 3, h1, _ => exact absurd h1 (by simp)
/-- sorted(xs), xs a list of entries -/
def rSortE (K : PySem.W.Frag) : List V → Hp → VK → Prop := fun vs H Q => ∃ (a : Addr) (xs : List V) (es : List Ent), vs = [.ref a] ∧ SqL K H a xs ∧ EL H xs es ∧
  ∀ ys fs p, EL H ys fs → Sd entLt fs → fs.Perm es → H p = none → Q (.ref p) (upd H p (.lst ys))
theorem cr_sortE : CallR X (.builtin "sorted") (rSortE X.K) := by
  intro pins s σ H vs us Q I r h
  obtain ⟨a, xs, es, rfl, hs, el, q⟩ := h
  obtain ⟨its, rv, hl, hz⟩ := I.list hs
  obtain ⟨u, rfl, ru⟩ := vals1 r
  obtain rfl : u = Value.ref a := ru
  obtain ⟨e1, e2⟩ := refs_back rv fun x m => by
    obtain ⟨e, _, t, h, _⟩ := el.mem m
    exact ⟨t, h⟩
  have hk : ∀ v ∈ its, IsE s.heap v (entOf H (backV v)) := fun v hv => by
    obtain ⟨t, rfl⟩ := e2 v hv
    have hm : V.ref t ∈ xs := by rw [e1]; exact List.mem_map.mpr ⟨_, hv, rfl⟩
    exact isE_of I (x := .ref t) rfl (el.ents _ hm)
  refine SrtO.sorted_ord (ltv := fun v u => entLt (entOf H (backV v)) (entOf H (backV u))) ⟨fun x y => tot_ent.swo.asym _ _, fun x y z => tot_ent.swo.tr _ _ _⟩ hl.isList (by rw [← rv.length]; exact hz) (fun h2 h₁ b hb kk => ?_) fun out hs hb => ?_
  · refine ents_sortableO (s := { s with heap := h₁ }) (k := fun v => entOf H (backV v)) (by omega) (fun v hv => (hk v hv).keeps fun b o e _ => (kk b o e).2) fun o e => ?_
    have e' : some o = some (seqObj "list" its.toArray 0) := e.symm.trans hb
    cases e'
    intro c
    exact absurd (Value.type.inj c) (by decide)
  · obtain ⟨n, hn⟩ := sortedAll_at s.heap its out.toArray
    have h3 : ∀ u ∈ out, ∃ a, u = Value.ref a := fun u hu => e2 u (hb.perm.mem_iff.mp hu)
    have pm : (out.map backV).Perm xs := by rw [e1]; exact hb.perm.map _
    obtain ⟨el2, pm2⟩ := el.perm pm
    have hlen : (out.map backV).length ≤ sizeLine := by rw [pm.length_eq]; exact hz
    refine ⟨.ref _, upd H (s.heap.objs.size + 1) (.lst (out.map backV)), I.laid (t' := s.toks) (fun _ _ => sortedAll_old) (Nat.le_succ _) ⟨hlen, out, n, vals_back h3, hn⟩, rfl, q _ _ _ el2 ?_ pm2 (I.hok.fresh (Nat.le_succ _))⟩
    have z : out.Pairwise (fun v u => entLt (entOf H (backV u)) (entOf H (backV v)) = false) := hs
    show ((out.map backV).map (entOf H)).Pairwise _
    rw [List.map_map]
    exact List.Pairwise.map _ (fun a b h => h) z
end
end Own

set_option Elab.async false
set_option linter.all false
set_option maxRecDepth 100000
set_option maxHeartbeats 4000000
namespace Own
open PySem L2 Lay PySem.Spec PyProof.Rows ClX
section
variable {X : Cx} {k : Nat} {f g C : Addr} {sp : Sp}
/-- the answer is a truth, a count, a text -/
def asB (Q : VK) : VK := fun v H => ∃ b, v = .bl b ∧ Q (.bl b) H
def asN (Q : VK) : VK := fun v H => ∃ i : Nat, v = .int i ∧ i < 1000000 ∧ Q (.int i) H
def asS (Q : VK) : VK := fun v H => ∃ z, v = .str z ∧ Q (.str z) H
theorem run_own {pins : List (Addr × Obj)} {σ : L2.St} {H : Hp} {s : Shared} {A : Around} {us : List Value} {vs : List V} {Q : VK} (F : FnP X.prog X.w X.K X.mg X.base k g sp) (hr : Room k A) (hg : A.guards = some []) (e0 : Env0 X.prog X.w X.K X.mg X.base A X.stack s H)
    (I : Inv X pins σ H s) (r : Vals vs us) (h : sp vs H Q E0) : wpAny (model X.prog X.w) A (call (.ref g) us) (EP X pins σ Q) X.xe s := wpAny_call (run_P F hr hg e0 I r h)
/-- x in o -/
def rInP (C : Addr) (sp : Sp) : R2 := fun x y H Q => ∃ a dx fs, y = .ref a ∧ H a = some (.ins C dx fs) ∧ sp [.ref a, x] H (asB Q) E0
theorem op_inP (hs : PySem.W.findIn X.K (.ref C) "__contains__" = some (some (.ref g))) (hf : PySem.W.isFn X.K (.ref g) = true) (F : FnP X.prog X.w X.K X.mg X.base k g sp) (hr : Room k X.A) (hg : X.A.guards = some []) : OpR X (compareOp .In) (rInP C sp) := by
  intro pins s σ H x y v u Q I rx ry h
  obtain ⟨a, dx, fs, rfl, ha, q⟩ := h
  cases (show u = Value.ref a from ry)
  obtain ⟨mA, O, _⟩ := ins_get I.hok ha
  obtain ⟨od, J, _⟩ := O.look
  show wpAny (model X.prog X.w) X.A (contains (Value.ref a) v >>= fun b => pure (Value.bool b)) (EP X pins σ Q) X.xe s
  refine wpAny_bind (PySem.W.own_contains I.kIn J hs hf (wpAny_mono (run_own (vs := [.ref a, x]) (us := [.ref a, v]) F hr hg I.env0 I (.cons rfl (.cons rx .nil)) q) (fun w s' z => ?_) fun _ _ e => e))
  obtain ⟨v', H', I', rv, b, rfl, q'⟩ := z
  cases (show w = Value.bool b from rv)
  exact ⟨b, rfl, wpAny_pure ⟨.bl b, H', I', rfl, q'⟩⟩
/-- len(o) -/
def rLenP (C : Addr) (sp : Sp) : List V → Hp → VK → Prop := fun xs H Q => ∃ a dx fs, xs = [.ref a] ∧ H a = some (.ins C dx fs) ∧ sp [.ref a] H (asN Q) E0
theorem call_lenP (hs : PySem.W.findIn X.K (.ref C) "__len__" = some (some (.ref g))) (hf : PySem.W.isFn X.K (.ref g) = true) (F : FnP X.prog X.w X.K X.mg X.base k g sp) (hr : Room (k + 1) X.A) (hg : X.A.guards = some []) : CallR X (.builtin "len") (rLenP C sp) := by
  intro pins s σ H xs us Q I r h
  obtain ⟨a, dx, fs, rfl, ha, q⟩ := h
  obtain ⟨u, rfl, ru⟩ := vals1 r
  obtain rfl : u = Value.ref a := ru
  obtain ⟨mA, O, _⟩ := ins_get I.hok ha
  obtain ⟨od, J, _⟩ := O.look
  obtain ⟨m, hF⟩ := I.fr
  refine PySem.W.len_K hF I.ok.mod.kin J hs hf (wpAny_mono (run_own (vs := [.ref a]) (us := [.ref a]) F hr.in1 (g_in1 hg) I.env0.in1 I (.cons rfl .nil) q) (fun w s' z => ?_) fun _ _ e => e)
  obtain ⟨v', H', I', rv, i, rfl, hi, q'⟩ := z
  obtain ⟨t, rfl⟩ := rv
  exact ⟨⟨by omega, by omega⟩, ⟨.int i, H', I'.tok _, ⟨_, rfl⟩, q'⟩⟩
/-- repr(o) -/
def rReprP (C : Addr) (sp : Sp) : List V → Hp → VK → Prop := fun xs H Q => ∃ a dx fs, xs = [.ref a] ∧ H a = some (.ins C dx fs) ∧ sp [.ref a] H (asS Q) E0
theorem call_reprP (hs : PySem.W.findIn X.K (.ref C) "__repr__" = some (some (.ref g))) (hf : PySem.W.isFn X.K (.ref g) = true) (F : FnP X.prog X.w X.K X.mg X.base k g sp) (hr : Room (k + 1) X.A) (hg : X.A.guards = some []) : CallR X (.builtin "repr") (rReprP C sp) := by
  intro pins s σ H xs us Q I r h
  obtain ⟨a, dx, fs, rfl, ha, q⟩ := h
  obtain ⟨u, rfl, ru⟩ := vals1 r
  obtain rfl : u = Value.ref a := ru
  obtain ⟨mA, O, _⟩ := ins_get I.hok ha
  obtain ⟨od, J, _⟩ := O.look
  obtain ⟨m, hF⟩ := I.fr
  refine PySem.W.repr_K hr.in1.units0 hF I.ok.mod.kin J hs hf (wpAny_mono (run_own (vs := [.ref a]) (us := [.ref a]) F hr.in1 (g_in1 hg) I.env0.in1 I (.cons rfl .nil) q) (fun w s' z => ?_) fun _ _ e => e)
  obtain ⟨v', H', I', rv, b, rfl, q'⟩ := z
  obtain ⟨t, rfl⟩ := rv
  exact ⟨.str b, H', I', ⟨t, rfl⟩, q'⟩
/-- o == y, o != y -/
def rEqP (K : PySem.W.Frag) (C : Addr) (sp : Sp) (neg : Bool) : R2 := fun x y H Q => ∃ a dx fs t, x = .ref a ∧ H a = some (.ins C dx fs) ∧ TyX K H y t ∧ PySem.W.notFirst K C t = true ∧
  sp [.ref a, y] H (fun v H' => ∃ b, v = .bl b ∧ Q (.bl (if neg then !b else b)) H') E0
theorem op_eqP (hs : PySem.W.findIn X.K (.ref C) "__eq__" = some (some (.ref g))) (hf : PySem.W.isFn X.K (.ref g) = true) (F : FnP X.prog X.w X.K X.mg X.base k g sp) (hr : Room k X.A) (hg : X.A.guards = some []) : OpR X (compareOp .Eq) (rEqP X.K C sp false) := by
  intro pins s σ H x y v u Q I rx ry h
  obtain ⟨a, dx, fs, t, rfl, ha, ty, nf, q⟩ := h
  cases (show v = Value.ref a from rx)
  obtain ⟨mA, O, _⟩ := ins_get I.hok ha
  obtain ⟨od, J, _⟩ := O.look
  obtain ⟨m, hF⟩ := I.fr
  obtain ⟨Pz, Z, pz, _⟩ := kit_of I ry ty
  show wpAny (model X.prog X.w) X.A (richCompare .Eq (.ref a) u) (EP X pins σ Q) X.xe s
  refine PySem.W.cmp_K (op := .Eq) (tb := t) hr.units0 hF I.ok.mod.kin J (Z.ty _ _ I.kIn pz) nf hs hf (wpAny_mono (run_own (vs := [.ref a, y]) (us := [.ref a, u]) F hr hg I.env0 I (.cons rfl (.cons ry .nil)) q) (fun w s' z => ?_) fun _ _ e => e)
  obtain ⟨v', H', I', rv, b, rfl, q'⟩ := z
  cases (show w = Value.bool b from rv)
  exact ⟨.bl b, H', I', rfl, q'⟩
theorem op_neP (hs : PySem.W.findIn X.K (.ref C) "__eq__" = some (some (.ref g))) (hf : PySem.W.isFn X.K (.ref g) = true) (hne : PySem.W.findIn X.K (.ref C) "__ne__" = some (some (.builtin "object.__ne__"))) (hm : PySem.W.mroIn X.K C (.type "object") = some true)
    (F : FnP X.prog X.w X.K X.mg X.base k g sp) (hr : Room (k + 1) X.A) (hg : X.A.guards = some []) : OpR X (compareOp .NotEq) (rEqP X.K C sp true) := by
  intro pins s σ H x y v u Q I rx ry h
  obtain ⟨a, dx, fs, t, rfl, ha, ty, nf, q⟩ := h
  cases (show v = Value.ref a from rx)
  obtain ⟨mA, O, _⟩ := ins_get I.hok ha
  obtain ⟨od, J, _⟩ := O.look
  obtain ⟨Pz, Z, pz, _⟩ := kit_of I ry ty
  show wpAny (model X.prog X.w) X.A (richCompare .NotEq (.ref a) u) (EP X pins σ Q) X.xe s
  refine PySem.W.own_ne (tb := t) (by have := hr.un; omega) I.kIn J (Z.ty _ _ I.kIn pz) nf hs hf hne hm (wpAny_mono (run_own (vs := [.ref a, y]) (us := [.ref a, u]) F hr.in1 (g_in1 hg) I.env0.in1 I (.cons rfl (.cons ry .nil)) q) (fun w s' z => ?_) fun _ _ e => e)
  obtain ⟨v', H', I', rv, b, rfl, q'⟩ := z
  cases (show w = Value.bool b from rv)
  exact ⟨b, rfl, .bl (!b), H', I', rfl, q'⟩
/-! ### texts of tuples -/
/-- repr(t), t a tuple -/
def rReprT (K : PySem.W.Frag) : List V → Hp → VK → Prop := fun xs H Q => ∃ (p : Addr) (as : List Addr) (ys : List V) (ts : List Str), xs = [.ref p] ∧ H p = some (.tup ys) ∧ Rp.SwL K H as ys ts ∧ p ∉ as ∧ as.length ≤ 30 ∧
  (tupleText ts).length ≤ sizeLine ∧ Q (.str (tupleText ts)) H
theorem call_reprT (hg : X.A.guards = some []) (hu : X.A.units + 200 < cLine) : CallR X (.builtin "repr") (rReprT X.K) := by
  intro pins s σ H xs us Q I r h
  obtain ⟨p, as, ys, ts, rfl, hp, l, hn, ha, hz, q⟩ := h
  obtain ⟨u, rfl, e⟩ := vals1 r
  cases (show u = Value.ref p from e)
  obtain ⟨_, its, rv, o, e1, e2, m, e3⟩ := (show ObjOk X.prog X.w H s.heap p (.tup ys) from I.hok p _ hp)
  have al := Rp.swl_repr I.hok I.kIn l rv (fun t ht => Nat.le_trans (tupleText_mem_le ht) hz)
  refine call_repr_slot (by omega) ⟨_, e1, e2⟩ F.slot_tuple_repr ?_
  refine call_tuple_reprK (A := X.A.in1) e1 e2 e3 hn (by simpa using al) (g := []) (by simpa using hg) (fun b _ => Clear.nil b) (by show X.A.units + 1 + (2 * as.length + 1) < cLine; omega)
    (fun _ _ e => e) (fun h' u tk kp => ⟨_, _, rfl, ⟨.str (tupleText ts), H, I.kept (t' := tk) kp, ⟨_, rfl⟩, q⟩⟩) hz
/-- {t!r} -/
def tFmtT2 (K : PySem.W.Frag) (te : TE) : TE := fun σ H Q => te σ H fun x H1 => ∃ (p : Addr) (as : List Addr) (ys : List V) (ts : List Str), x = .ref p ∧ H1 p = some (.tup ys) ∧ Rp.SwL K H1 as ys ts ∧ p ∉ as ∧ as.length ≤ 30 ∧
  (tupleText ts).length ≤ sizeLine ∧ Q (.str (tupleText ts)) H1
theorem pe_fmtT2 {e : Expr} {te : TE} {pos : Pos} (hg : X.A.guards = some []) (hu : X.A.units + 200 < cLine) (he : PE X e te) : PE X (.FormattedValue e 114 none pos) (tFmtT2 X.K te) := by
  refine ⟨fun pins s σ H Q I h => ?_⟩
  refine wpAny_FormattedValue_repr (thn (he.run pins s σ H _ I h) fun v s1 hv => ?_)
  obtain ⟨x, H1, I1, r1, p, as, ys, ts, rfl, hp, l, hn, ha, hz, q⟩ := hv
  cases (show v = Value.ref p from r1)
  obtain ⟨_, its, rv, o, e1, e2, m, e3⟩ := (show ObjOk X.prog X.w H1 s1.heap p (.tup ys) from I1.hok p _ hp)
  have al := Rp.swl_repr I1.hok I1.kIn l rv (fun t ht => Nat.le_trans (tupleText_mem_le ht) hz)
  have fin : ∀ h' u tk, (∀ b o, s1.heap.get? b = some o → h'.get? b = some o) → wpAny (model X.prog X.w) X.A (formatField (.str (tupleText ts) u) Str.empty) (EP X pins σ Q) X.xe { s1 with heap := h', toks := tk } := fun h' u tk kp =>
    wpAny_formatField_str ⟨.str (tupleText ts), H1, I1.kept (t' := tk) kp, ⟨_, rfl⟩, q⟩ ⟨.str (tupleText ts), H1, I1.kept (t' := tk + 1) kp, ⟨_, rfl⟩, q⟩ hz
  unfold pyReprObj
  refine wpAny_bind (wpAny_cRoomFor (by omega) ?_)
  refine wpAny_bind (wpAny_specialOf (name := Str.ofString "__repr__") (T := "tuple") ⟨_, e1, e2⟩ F.slot_tuple_repr.lookup ?_)
  refine wpAny_bind (m := callSpecialIfBound? (.ref p) (Str.ofString "__repr__")) (wpAny_callSpecialIfBound?_slotG (name := Str.ofString "__repr__") (T := "tuple") ⟨_, e1, e2⟩ F.slot_tuple_repr ?_)
  refine call_tuple_reprK (A := X.A) e1 e2 e3 hn (by simpa using al) (g := []) hg (fun b _ => Clear.nil b) (by omega) (fun _ _ e => e) (fun h' u tk kp => ?_) hz
  exact wpAny_bind (wpAny_isInstance (T := "str") (b := true) rfl isSubtype_str_str (wpAny_pure (fin h' u tk kp)))
end
end Own

set_option Elab.async false
set_option linter.all false
set_option maxRecDepth 100000
set_option maxHeartbeats 4000000
namespace Own
open PySem L2 Lay PySem.Spec PyProof.Rows ClX
/-! ### x in t, t a tuple of data of any depth -/
def rInT (K : PySem.W.Frag) : R2 := fun x y H Q => ∃ d ds, Dp K H x d ∧ Dp K H y (.tuple ds) ∧ SeqAt.shaped d = true ∧ SeqAt.shaped (.tuple ds) = true ∧ Q (.bl (ds.any fun z => PyData.eqv z d)) H
theorem op_inT {X : Cx} (hu : X.A.units + 66 < cLine) : OpR X (compareOp .In) (rInT X.K) := by
  intro pins s σ H x y v u Q I rx ry h
  obtain ⟨d, ds, hd, he, sd, se, q⟩ := h
  obtain ⟨as, r1⟩ := Dp.reads I d x v hd rx
  obtain ⟨bs, r2⟩ := Dp.reads I (.tuple ds) y u he ry
  have l1 := SeqAt.canLay_of_shaped se
  exact SeqAt.in_tuple_reads r2 r1 l1 (SeqAt.canLay_of_shaped sd) (by
    have z : decide (d.depth ≤ 64) = true := (Bool.and_eq_true_iff.mp sd).2
    have := of_decide_eq_true z
    omega) ⟨.bl _, H, I, rfl, q⟩
/-! ### entries as data -/
def eD (e : Ent) : PyData := .tuple [.int e.1, .int e.2.1, .str e.2.2]
/-- a name whose text can be laid -/
def NmOk (e : Ent) : Prop := PyData.strOk e.2.2 = true
theorem eD_lay {e : Ent} (h : NmOk e) : (eD e).canLay0 = true := by
  have h : PyData.strOk e.2.2 = true := h
  simp [eD, PyData.canLay0, PyData.canLayAll0, h]
theorem eD_dep (e : Ent) : (eD e).depth ≤ 1 := by simp [eD, PyData.depth, PyData.depthAll]
theorem eD_sh {e : Ent} (n : NmOk e) : SeqAt.shaped (eD e) = true := by
  have h := eD_dep e
  show ((eD e).canLay0 && decide ((eD e).depth ≤ 64)) = true
  rw [eD_lay n, decide_eq_true (by omega)]; rfl
theorem eDs_lay : ∀ es : List Ent, (∀ e ∈ es, NmOk e) → PyData.canLayAll0 (es.map eD) = true
  | [], _ => by simp [PyData.canLayAll0]
  | e :: es, h => by simp [PyData.canLayAll0, eD_lay (h e (List.mem_cons_self ..)), eDs_lay es fun f hf => h f (List.mem_cons_of_mem _ hf)]
theorem eDs_dep : ∀ es : List Ent, PyData.depthAll (es.map eD) ≤ 1
  | [] => by simp [PyData.depthAll]
  | e :: es => by
    have h1 := eDs_dep es
    have h2 := eD_dep e
    simp only [List.map_cons, PyData.depthAll]
    omega
theorem eDs_sh {es : List Ent} (n : ∀ e ∈ es, NmOk e) : SeqAt.shaped (.tuple (es.map eD)) = true := by
  have h := eDs_dep es
  show (PyData.canLay0 (.tuple (es.map eD)) && decide (PyData.depth (.tuple (es.map eD)) ≤ 64)) = true
  rw [Bool.and_eq_true]
  exact ⟨by simp only [PyData.canLay0]; exact eDs_lay es n, decide_eq_true (by simp only [PyData.depth]; omega)⟩
theorem eDs_shL {es : List Ent} (n : ∀ e ∈ es, NmOk e) : SeqAt.shaped (.list (es.map eD)) = true := by
  have h := eDs_dep es
  show (PyData.canLay0 (.list (es.map eD)) && decide (PyData.depth (.list (es.map eD)) ≤ 64)) = true
  rw [Bool.and_eq_true]
  exact ⟨by simp only [PyData.canLay0]; exact eDs_lay es n, decide_eq_true (by simp only [PyData.depth]; omega)⟩
theorem eD_eqv (e f : Ent) : PyData.eqv (eD e) (eD f) = decide (e = f) := by
  obtain ⟨a, b, c⟩ := e
  obtain ⟨a', b', c'⟩ := f
  have z : PyData.eqv (eD (a, b, c)) (eD (a', b', c')) = ((a == a') && ((b == b') && ((c == c') && true))) := by simp only [eD, PyData.eqv, PyData.eqvAll]
  rw [z]
  by_cases h : ((a, b, c) : Ent) = (a', b', c')
  · cases h; simp
  · rw [decide_eq_false h, Bool.eq_false_iff]
    intro q
    apply h
    simp at q
    obtain ⟨q1, q2, q3⟩ := q
    rw [q1, q2, q3]
theorem any_eD (es : List Ent) (e : Ent) : ((es.map eD).any fun z => PyData.eqv z (eD e)) = decide (e ∈ es) := by
  induction es with
  | nil => rfl
  | cons f es ih =>
    rw [List.map_cons, List.any_cons, ih, eD_eqv]
    by_cases h : f = e
    · subst h; simp
    · have h' : ¬ e = f := fun z => h z.symm
      simp [h, h']
theorem eqv_eDs (es fs : List Ent) : PyData.eqvAll (es.map eD) (fs.map eD) = decide (es = fs) := by
  induction es generalizing fs with
  | nil => cases fs <;> simp [PyData.eqvAll]
  | cons e es ih =>
    cases fs with
    | nil => simp [PyData.eqvAll]
    | cons f fs =>
      rw [List.map_cons, List.map_cons, PyData.eqvAll, eD_eqv, ih]
      by_cases h : e = f <;> by_cases g : es = fs <;> simp [h, g]
theorem eqvT (es fs : List Ent) : PyData.eqv (.tuple (es.map eD)) (.tuple (fs.map eD)) = decide (es = fs) := by rw [PyData.eqv]; exact eqv_eDs es fs
theorem eqvL (es fs : List Ent) : PyData.eqv (.list (es.map eD)) (.list (fs.map eD)) = decide (es = fs) := by rw [PyData.eqv]; exact eqv_eDs es fs
section
variable {K : PySem.W.Frag} {H : Hp} {x : V} {e : Ent} {xs : List V} {es : List Ent}
theorem EntT.dp (h : EntT H x e) : Dp K H x (eD e) := by
  obtain ⟨t, rfl, h⟩ := h
  exact .tup (SqT.of h) (.cons (.int _) (.cons (.int _) (.cons (.str _) .nil)))
theorem EL.dp (h : EL H xs es) : DpAll K H xs (es.map eD) := by
  induction h with
  | nil => exact .nil
  | cons h _ ih => exact .cons h.dp ih
end
/-! ### enumerate(t), t a tuple -/
def IteT (K : PySem.W.Frag) (a : Addr) : It :=
  ⟨fun i H => ∃ (xs : List V) (x : V), SqT K H a xs ∧ xs[i]? = some x, fun i H v H' => ∃ T x, v = .ref T ∧ H T = none ∧ H' = upd H T (.tup [.int (i : Nat), x]) ∧ ∀ xs, SqT K H a xs → xs[i]? = some x, fun i H => ∃ xs : List V, SqT K H a xs ∧ xs.length = i⟩
theorem walk_enumT {K : PySem.W.Frag} {a : Addr} {xs : List V} : Walk (IteT K a) xs.length (fun H => SqT K H a xs) (YPair (fun i => some (.int (i : Nat))) (fun i => xs[i]?)) := by
  refine ⟨fun i _ hi q => ⟨xs, xs[i], q, by simp [hi]⟩, fun _ q => ⟨xs, q, rfl⟩, fun i H v H' _ q y => ?_⟩
  obtain ⟨T, x, h1, h2, h3, h4⟩ := y
  exact ⟨T, .int (i : Nat), x, h1, h2, h3, rfl, h4 xs q⟩
end Own

set_option Elab.async false
set_option linter.all false
set_option maxRecDepth 100000
set_option maxHeartbeats 4000000
namespace Own
open PySem L2 Lay PySem.Spec PyProof.Rows ClX
/-! ### enumerate(t) -/
theorem new_enum1 {v : Value} {o : Obj} {G : Heap → Prop} (B : Begins v o G) :
    Meets (Builtin.«enumerate.__new__» ⟨[.type "enumerate", v], []⟩) (fun _ R s => G s.heap ∧
      R (.ok (.ret (.ref (s.heap.push o).objs.size))) { s with heap := (s.heap.push o).push { cls := .type "enumerate", data := .fields #[.none, .bool false, .ref s.heap.objs.size, rawInt 0, .none, .none] } }) :=
  .of_wp fun prog w A R s h => by
    obtain ⟨hp, g, d, tk, os⟩ := s
    obtain ⟨h1, h⟩ := h
    have hsub := sub_enumerate
    have it : ∀ {A' : Around} {E : Value → Shared → Prop} {Q : Value → Shared → Prop}, Q (.ref hp.objs.size) ⟨hp.push o, g, d, tk, os⟩ → wpAny (model prog w) A' (pyIter v) Q E ⟨hp, g, d, tk, os⟩ := fun q => B.iter prog w _ _ ⟨hp, g, d, tk, os⟩ _ h1 q
    wp_walk using it
    refine wpAny_stack_any fun st => wpAny_pure ?_
    split
    · rename_i c _ _ _ _ _
      cases (c == Value.type "enumerate") <;> (wp_walk using it; exact ⟨_, rfl, h⟩)
    · wp_walk using it
      exact ⟨_, rfl, h⟩
theorem call_enum1 {prog : Program} {w : World} {A : Around} {E : Value → Shared → Prop} {s : Shared} {v : Value} {o : Obj} {G : Heap → Prop} {Q : Value → Shared → Prop} (B : Begins v o G) (g : G s.heap)
    (h : ∀ h', IsEnum h' (s.heap.objs.size + 1) s.heap.objs.size 0 .none → h'.get? s.heap.objs.size = some o → (∀ b u, s.heap.get? b = some u → h'.get? b = some u) → Q (.ref (s.heap.objs.size + 1)) { s with heap := h' }) :
    wpAny (model prog w) A (call (.type "enumerate") [v]) Q E s := by
  refine callType_new F.called_enumerate (by decide) (F.typeCall_enumerate_1 _) (F.newCall_enumerate_1 _) (fun obj => F.args_object_init_2 obj _) F.entry_enumerate_new (new_enum1 B) ⟨g, ?_⟩
  have sz : (s.heap.push o).objs.size = s.heap.objs.size + 1 := Heap.size_push ..
  have e : IsEnum ((s.heap.push o).push { cls := .type "enumerate", data := .fields #[.none, .bool false, .ref s.heap.objs.size, rawInt 0, .none, .none] }) (s.heap.objs.size + 1) s.heap.objs.size 0 .none := by
    rw [← sz]
    exact Heap.get?_push_size _ rfl
  show _ ∧ _
  rw [sz]
  exact ⟨⟨_, e, rfl⟩, h _ e (Heap.get?_push_of_some _ (Heap.get?_push_size _ B.free)) fun b u q => Heap.get?_push_of_some _ (Heap.get?_push_of_some _ q)⟩
theorem turn_enumT {P : Program} {w : World} {K : PySem.W.Frag} {elts : List Expr} {kk : Nat} {tpos : Pos} (a e it : Addr) :
    Turn P w K (.Tuple elts kk tpos) (IteT K a) [e, it] e (fun i h => (∃ old, IsEnum h e it ((i : Nat) : Int) old) ∧ h.IsTupleIter it a i ∧ e ≠ it) where
  mem := by simp
  obj := fun i h st b hb => by
    obtain ⟨⟨old, he⟩, ⟨o, ho, hc, hd⟩, _⟩ := st
    rcases List.mem_cons.mp hb with z | z
    · subst z; exact ⟨_, he, fun v q => nomatch q⟩
    · obtain rfl := List.mem_singleton.mp z
      exact ⟨o, ho, fun v q => by rw [hd] at q; cases q⟩
  keep := fun i h h' st k => by
    obtain ⟨⟨old, he⟩, hi, ne⟩ := st
    exact ⟨⟨old, k e (by simp) _ he⟩, hi.at fun o q => k it (by simp) o q, ne⟩
  item := by
    intro X hP hw hK hc i pins s σ H E I hf st hg
    subst hP hw hK
    obtain ⟨⟨old, he⟩, hit, ne⟩ := st
    obtain ⟨xs, x, hq, hx⟩ := hg
    obtain ⟨its, rv, p, hz⟩ := I.tuple hq
    obtain ⟨u, hu, ru⟩ := rv.get hx
    have hel : e < s.heap.objs.size := Heap.lt_size he
    have hil : it < s.heap.objs.size := by obtain ⟨_, q, _⟩ := hit; exact Heap.lt_size q
    have eL : e ≠ a := fun z => by
      obtain ⟨o, ho, hcl, _⟩ := p
      subst z
      rw [show s.heap.get? e = some _ from he] at ho
      cases ho
      exact absurd (Value.type.inj hcl) (by decide)
    have iL : a ≠ it := fun z => by
      obtain ⟨o, ho, hcl, _⟩ := p
      obtain ⟨o', ho', hcl', _⟩ := hit
      subst z
      rw [ho] at ho'
      cases ho'
      rw [hcl] at hcl'
      exact absurd (Value.type.inj hcl') (by decide)
    have D := PySem.Draws.tuple (prog := X.prog) (w := X.w) (A := X.A.in1) (by simpa using I.ok.hd hc) it a iL its.toArray
    have hlt : i < its.toArray.size := by
      have := (List.getElem?_eq_some_iff.mp hu).1
      simpa using this
    refine wpAny_pyNext_enum_itemD D he ⟨hit, p⟩ hlt ne (by simp [ne, eL]) fun y h' tk py ho hst hT hsz hk => ?_
    have ey : y = u := by
      have q : its.toArray[i]? = some y := py
      rw [show its.toArray[i]? = its[i]? by simp, hu] at q
      exact (Option.some.inj q).symm
    subst ey
    refine ⟨_, rfl, wpAny_letOwnedTupleGo_enum (s := { s with heap := h', toks := tk + 1 }) ho fun h'' he' sb => ?_⟩
    have hT2 : h''.get? s.heap.objs.size = some { cls := .type "tuple", data := .seq #[.int i tk, y] } := (sb.2 _ (Nat.ne_of_gt hel)).trans hT
    have new : ObjOk X.prog X.w (upd H s.heap.objs.size (.tup [.int (i : Nat), x])) h'' s.heap.objs.size (.tup [.int (i : Nat), x]) :=
      ⟨by show 2 ≤ sizeLine; decide, [.int i tk, y], .cons ⟨_, rfl⟩ (.cons ru .nil), ⟨_, hT2, rfl, _, rfl⟩⟩
    have I1 : Inv X pins σ (upd H s.heap.objs.size (.tup [.int (i : Nat), x])) { s with heap := h'', toks := tk + 1 } :=
      I.turnedNew (ch := [e, it]) (fun b ob hb q => (sb.2 b (fun z => hb (by simp [z]))).trans (hk b ob (fun z => hb (by simp [z])) (fun z => hb (by simp [z])) q)) hf (Nat.le_refl _) new
    refine ⟨.ref s.heap.objs.size, _, I1, rfl, ⟨_, x, rfl, I.hok.fresh (Nat.le_refl _), rfl, fun ys hy => ?_⟩, ⟨⟨y, ?_⟩, hst.1.at fun o q => (sb.2 it (Ne.symm ne)).trans q, ne⟩, fun b hb => ?_⟩
    · rw [I.tuple_inj hy hq]; exact hx
    · have e1 : ((i + 1 : Nat) : Int) = (i : Int) + 1 := by omega
      rw [e1]; exact he'
    · have hb' : b < s.heap.objs.size := by
        rcases List.mem_cons.mp hb with z | z
        · rw [z]; exact hel
        · rw [List.mem_singleton.mp z]; exact hil
      rw [upd_ne (Nat.ne_of_lt hb')]
      exact (hf b hb).1
  done := by
    intro X hP hw hK hc i pins s σ H E I hf st hg
    subst hP hw hK
    obtain ⟨⟨old, he⟩, hit, ne⟩ := st
    obtain ⟨xs, hq, hx⟩ := hg
    obtain ⟨its, rv, p, hz⟩ := I.tuple hq
    obtain ⟨f0, f1, f2, f3, f4, f5⟩ := hf it (by simp)
    have iL : a ≠ it := fun z => by
      obtain ⟨o, ho, hcl, _⟩ := p
      obtain ⟨o', ho', hcl', _⟩ := hit
      subst z
      rw [ho] at ho'
      cases ho'
      rw [hcl] at hcl'
      exact absurd (Value.type.inj hcl') (by decide)
    have ei : its.toArray.size = i := by rw [List.size_toArray, ← rv.length]; exact hx
    subst ei
    have D := PySem.Draws.tuple (prog := X.prog) (w := X.w) (A := X.A.in1) (by simpa using I.ok.hd hc) it a iL its.toArray
    exact wpAny_pyNext_enum_endD D he ⟨hit, p⟩ fun h' eb => ⟨rfl, I.turned (t' := s.toks) (fun b o hb q => eb b o hb q) f0 f1 f3 f4 f5⟩
  self := fun A i s Q E st h => by
    obtain ⟨⟨_, he⟩, _⟩ := st
    exact wpAny_pyIter_enum he h
def iEnumT (K : PySem.W.Frag) (ta : TA) : TI := fun σ H R => ta σ H fun vs H1 => ∃ a xs, vs = [.ref a] ∧ SqT K H1 a xs ∧ R (IteT K a) H1
theorem pi_enumT {X : Cx} {e : Expr} {ta : TA} {p pos tpos : Pos} {elts : List Expr} {kk : Nat} (hg : Gl X "enumerate") (hm : X.mg "enumerate" = none) (ha : PA X [e] ta) (hs : starEach [e] X.env = [(false, eval e X.env)] := by rfl) :
    PI X (.Tuple elts kk tpos) (.Call (.Name "enumerate" p) [e] [] pos) (iEnumT X.K ta) := by
  refine ⟨fun pins s σ H R I h => ?_⟩
  refine Call_ (ld_blt I hg hm boot_enumerate (PyProof.Rows.callWith_type1 (thn (ha.run pos pins s σ H _ I h) fun us s1 ⟨vs, H1, I1, r1, a, xs, ex, hq, q⟩ => ?_) hs rfl))
  subst ex
  obtain ⟨u, rfl, ru⟩ := vals1 r1
  obtain rfl : u = Value.ref a := ru
  obtain ⟨its, rv, p', hz⟩ := I1.tuple hq
  refine call_enum1 (begins_tuple a its.toArray) p' fun h' he hit hk => wpAny_pyIter_enum he ?_
  have I2 : Inv X pins σ H1 { s1 with heap := h' } := I1.kept (t' := s1.toks) hk
  refine ⟨s1.heap.objs.size + 1, [s1.heap.objs.size + 1, s1.heap.objs.size], _, _, H1, rfl, I2, turn_enumT a (s1.heap.objs.size + 1) s1.heap.objs.size, ⟨⟨.none, he⟩, ⟨_, hit, rfl, rfl⟩, Nat.succ_ne_self _⟩, fun b hb => ?_, q⟩
  have hle : s1.heap.objs.size ≤ b := by
    rcases List.mem_cons.mp hb with z | z
    · rw [z]; exact Nat.le_succ _
    · rw [List.mem_singleton.mp z]; exact Nat.le_refl _
  exact I1.fpOk hle (I1.hok.fresh hle)
end Own

set_option Elab.async false
set_option linter.all false
set_option maxRecDepth 100000
set_option maxHeartbeats 4000000
namespace Rx
open PySem L2 Lay Own PySem.Spec PyProof.Rows
/-! ### defs that may raise, no text of an object being made -/
abbrev FnGX (P : Program) (w : World) (K : PySem.W.Frag) (mg : Str → Option Value) (base : Heap) (k : Nat) (f : Addr) (fd : FuncData) (ps : List Str) (sp : Sp) : Prop :=
  FnG P w K mg base (L2.CX P w) k f fd ps sp
/-- .. called with values by place -/
def FnPX (P : Program) (w : World) (K : PySem.W.Frag) (mg : Str → Option Value) (base : Heap) (k : Nat) (g : Addr) (sp : Sp) : Prop :=
  ∀ (A : Around) (outer : List Env) (s : Shared) (H : Hp) (us : List Value) (vs : List V) (Q : VK) (E : XK), Room k A → A.guards = some [] → Env0 P w K mg base A outer s H → Vals vs us →
    sp vs H Q E → codeAny (model P w) A (.call (.ref g) ⟨us, []⟩) (CR (L2.CX P w) outer P w H s Q E) s
def DfX (P : Program) (w : World) (K : PySem.W.Frag) (mg : Str → Option Value) (base : Heap) (k : Nat) (x : Str) (ps : List Str) (sp : Sp) : Prop :=
  ∃ f fd, FnGX P w K mg base k f fd ps sp ∧ mg x = some (.ref f) ∧ PySem.W.keepIn K (.ref f) = true ∧ Binds K fd ps [] ∧ Kw1 fd ps
section
variable {P : Program} {w : World} {K : PySem.W.Frag} {mg : Str → Option Value} {base : Heap} {x qual : Str} {st : Stmt} {f : Addr} {fd : FuncData} {N ps : List Str} {j k : Nat} {sp sp' : Sp} {g : Addr}
theorem okGX (F : Fun K x qual st f fd) (S : FnScope N ps (defScope st)) (len : ∀ vs H Q E, sp vs H Q E → vs.length = ps.length)
    (hbody : ∀ (cdv : Value) (A : Around) (outer : List Env) (s : Shared) (H : Hp) (vs : List V) (Q : VK) (E : XK), Room k (A.deeper (envOfC qual (defScope st) s.heap.objs.size f cdv)) → A.guards = some [] →
      sp vs H Q E → ∃ t, PSs (cxOf (L2.CX P w) P w K mg base N qual (defScope st) f cdv A outer s H E) (defBody st) t ∧ t { nx := fun _ H' => Q .non H', rt := Q } (start N vs) H) :
    FnGX P w K mg base (k + 1) f fd ps sp := by
  obtain ⟨oc, od, kV, doc, pm, an, cdv, ct, osl, rfl, lk, hcd⟩ := F.ex
  exact fnG_of lk hcd S len fun A outer s H vs Q E hr hg hsp => hbody cdv A outer s H vs Q E hr hg hsp
theorem srcX (S : Src K mg x st ps) (sc : FnScope N ps (defScope st)) (len : ∀ vs H Q E, sp vs H Q E → vs.length = ps.length)
    (hbody : ∀ (f : Addr) (cdv : Value) (A : Around) (outer : List Env) (s : Shared) (H : Hp) (vs : List V) (Q : VK) (E : XK), Room k (A.deeper (envOfC x (defScope st) s.heap.objs.size f cdv)) → A.guards = some [] →
      sp vs H Q E → ∃ t, PSs (cxOf (L2.CX P w) P w K mg base N x (defScope st) f cdv A outer s H E) (defBody st) t ∧ t { nx := fun _ H' => Q .non H', rt := Q } (start N vs) H) :
    DfX P w K mg base (k + 1) x ps sp := by
  obtain ⟨f, fd, F, g, b⟩ := S
  exact ⟨f, fd, okGX F sc len (hbody f), g, F.kp, b⟩
theorem FnPX.ofG (F : FnGX P w K mg base k g fd ps sp) (b : Binds K fd ps []) : FnPX P w K mg base k g sp := by
  intro A outer s H us vs Q E hr hg e0 r h
  have hl : us.length = ps.length := by rw [← r.length]; exact F.len _ _ _ _ h
  have b1 := b s us (e0.mod.kin.keeps fun b o e => (e0.bs b o e).1) (by rw [List.append_nil]; exact hl)
  rw [List.append_nil] at b1
  exact F.run A outer s H ⟨us, []⟩ us vs Q E hr hg e0 b1 r h
theorem FnPX.mono (F : FnPX P w K mg base j g sp) (h : j ≤ k) : FnPX P w K mg base k g sp := fun A outer s H us vs Q E hr => F A outer s H us vs Q E (hr.mono h)
/-- around a def's body: its wish -/
theorem takesD {cdv : Value} {A : Around} {outer : List Env} {s : Shared} {H : Hp} {E : XK} {sc : Scope} : Takes (cxOf (L2.CX P w) P w K mg base N qual sc f cdv A outer s H E) (fun cls d _ H' => E cls d H') :=
  takes_of rfl rfl rfl rfl
theorem leaveD {cdv : Value} {A : Around} {outer : List Env} {s : Shared} {H : Hp} {E : XK} {sc : Scope} :
    PassesOwn (model P w) (cxOf (L2.CX P w) P w K mg base N qual sc f cdv A outer s H E).A (cxOf (L2.CX P w) P w K mg base N qual sc f cdv A outer s H E).env (cxOf (L2.CX P w) P w K mg base N qual sc f cdv A outer s H E).xe := PassesOwn.leaving
end
/-! ### calls of them -/
/-- what a context wishes of an exception, at these slots -/
def wAt (W : WX) (σ : L2.St) : XK := fun cls d H => W cls d σ H
def tGX (W : WX) (sp : Sp) (t : TA) : TE := fun σ H Q => t σ H fun vs H1 => sp vs H1 Q (wAt W σ)
section
variable {X : Cx} {W : WX} {k : Nat} {f g C : Addr} {fd : FuncData} {ps : List Str} {sp : Sp} {pins : List (Addr × Obj)} {σ : L2.St} {H : Hp} {s : Shared} {Q : VK} {us : List Value} {vs : List V}
theorem back_X (tk : Takes X W) (I : Inv X pins σ H s) {r : Result} {s' : Shared} (hq : CR (L2.CX X.prog X.w) X.stack X.prog X.w H s Q (wAt W σ) r s') :
    (match (generalizing := false) r with | .ok (.ret v) => EP X pins σ Q v s' | .ok _ => False | .error x => X.xe x s') := by
  cases r with
  | error e => exact tk e s' (XE.of_call I (fun _ _ _ z => z) hq)
  | ok fl =>
    cases fl with
    | ret u => exact I.after hq
    | next => exact False.elim hq
    | brk => exact False.elim hq
    | cont => exact False.elim hq
theorem run_GX {args : Args} (tk : Takes X W) (F : FnGX X.prog X.w X.K X.mg X.base k f fd ps sp) (hr : Room k X.A) (hg : X.A.guards = some []) (I : Inv X pins σ H s)
    (hb : BindsTo s fd args (ps.zip us)) (r : Vals vs us) (h : sp vs H Q (wAt W σ)) :
    codeAny (model X.prog X.w) X.A (.call (.ref f) args) (fun r s' => match r with | .ok (.ret v) => EP X pins σ Q v s' | .ok _ => False | .error x => X.xe x s') s :=
  codeAny_mono (F.run X.A X.stack s H args us vs Q _ hr hg I.env0 hb r h) fun _ _ hq => back_X tk I hq
theorem run_PX {A : Around} (tk : Takes X W) (F : FnPX X.prog X.w X.K X.mg X.base k g sp) (hr : Room k A) (hg : A.guards = some []) (e0 : Env0 X.prog X.w X.K X.mg X.base A X.stack s H) (I : Inv X pins σ H s) (r : Vals vs us) (h : sp vs H Q (wAt W σ)) :
    codeAny (model X.prog X.w) A (.call (.ref g) ⟨us, []⟩) (fun r s' => match r with | .ok (.ret v) => EP X pins σ Q v s' | .ok _ => False | .error x => X.xe x s') s :=
  codeAny_mono (F A X.stack s H us vs Q _ hr hg e0 r h) fun _ _ hq => back_X tk I hq
end
section
variable {X : Cx} {W : WX} {x nm m : Str} {ps : List Str} {sp : Sp} {k : Nat} {f g C p0 : Addr} {mc : Value} {o e : Expr} {es : List Expr} {t : TA} {te ta : TE} {p pos kpos apos sp_ p1 : Pos} {pl : Sem Bool}
/-- f(e, ..) -/
theorem pe_ownX (tk : Takes X W) (D : DfX X.prog X.w X.K X.mg X.base k x ps sp) (hr : Room k X.A) (hgd : X.A.guards = some []) (ht : PA X (e :: es) t) (hg : Gl X x := by rfl) (hdb : (x == ("__debug__" : Str)) = false := by decide)
    (hs : starEach (e :: es) X.env = (false, eval e X.env) :: starEach es X.env := by rfl) (hpl : (backTo pos (starEach es X.env)).any (·.1) = false := by rfl) :
    PE X (.Call (.Name x p) (e :: es) [] pos) (tGX W sp t) := by
  obtain ⟨f, fd, F, g, kp, b, _⟩ := D
  refine ⟨fun pins s σ H Q I h => wpAny_Call_Name_kw (ld_glob I hg g ?_ hdb)⟩
  refine PySem.W.callWith_K (h₀ := X.base) I.ok.mod.kin kp (thn (ht.run pos pins s σ H _ I h) fun us s1 ⟨vs, H1, I1, r, q⟩ => ⟨I1.kIn, ?_⟩) hs hpl
  have b1 := b s1 us I1.kIn (by rw [List.append_nil, ← r.length]; exact F.len _ _ _ _ q)
  rw [List.append_nil] at b1
  exact wpAny_call (run_GX tk F hr hgd I1 b1 r q)
/-! making -/
def tMakeX (W : WX) (C : Addr) (sp : Sp) (t : TA) : TE := fun σ H Q => t σ H fun vs H1 => ∀ x dx, H1 x = Option.none → H1 dx = Option.none → dx ≠ x →
  sp (V.ref x :: vs) (upd (upd H1 dx (.own x)) x (.ins C dx [])) (fun v H2 => v = .non ∧ Q (.ref x) H2) (wAt W σ)
theorem run_makeX {pins : List (Addr × Obj)} {σ : L2.St} {H : Hp} {s : Shared} {Q : VK} {us : List Value} {vs : List V} (tk : Takes X W) (M : Mk X.K C f) (F : FnPX X.prog X.w X.K X.mg X.base k f sp) (hr : Room (k + 1) X.A) (hg : X.A.guards = some []) (I : Inv X pins σ H s) (r : Vals vs us)
    (h : ∀ x dx, H x = Option.none → H dx = Option.none → dx ≠ x → sp (V.ref x :: vs) (upd (upd H dx (.own x)) x (.ins C dx [])) (fun v H2 => v = .non ∧ Q (.ref x) H2) (wAt W σ)) :
    wpAny (model X.prog X.w) X.A (call (.ref C) us) (EP X pins σ Q) X.xe s := by
  have hq := h (s.heap.objs.size + 1) s.heap.objs.size (I.hok.fresh (Nat.le_succ _)) (I.hok.fresh (Nat.le_refl _)) (Nat.ne_of_lt (Nat.lt_succ_self _))
  have I2 := Inv.made (C := C) I
  have r2 : Vals (V.ref (s.heap.objs.size + 1) :: vs) (Value.ref (s.heap.objs.size + 1) :: us) := .cons rfl r
  have run := F _ X.stack _ _ _ _ _ _ (hr.make C us []) (g_under hg) (I2.env0.make C us []) r2 hq
  refine wpAny_call (make_map (f := f) I.kIn M.makes M.init (beq_iff_eq.mp M.fn) (codeAny_mono run fun r s' hq' => ?_))
  cases r with
  | error e => exact tk e s' (XE.of_call I2 (fun _ _ _ z => z) hq')
  | ok fl =>
    cases fl with
    | ret u =>
      obtain ⟨v, H', I3, rv, ev, q3⟩ := I2.after hq'
      subst ev
      exact ⟨rv, ⟨V.ref (s.heap.objs.size + 1), H', I3, rfl, q3⟩⟩
    | next => exact False.elim hq'
    | brk => exact False.elim hq'
    | cont => exact False.elim hq'
/-- C(e, ..) -/
theorem pe_makeX (tk : Takes X W) (M : Mk X.K C f) (F : FnPX X.prog X.w X.K X.mg X.base k f sp) (hr : Room (k + 1) X.A) (hgd : X.A.guards = some []) (hm : X.mg x = some (.ref C)) (ha : PA X (e :: es) t) (hg : Gl X x := by rfl) (hdb : (x == ("__debug__" : Str)) = false := by decide)
    (he : starEach (e :: es) X.env = (false, eval e X.env) :: starEach es X.env := by rfl) (hpl : (backTo pos (starEach es X.env)).any (·.1) = false := by rfl) : PE X (.Call (.Name x p1) (e :: es) [] pos) (tMakeX W C sp t) := by
  refine ⟨fun pins s σ H Q I h => wpAny_Call_Name_kw (ld_glob I hg hm ?_ hdb)⟩
  refine PySem.W.callWith_K (h₀ := X.base) I.ok.mod.kin M.kp (thn (ha.run pos pins s σ H _ I h) fun us s1 ⟨vs, H1, I1, r, q⟩ => ⟨I1.kIn, ?_⟩) he hpl
  exact run_makeX tk M F hr hgd I1 r q
/-- C() -/
theorem pe_makeX0 (tk : Takes X W) (M : Mk X.K C f) (F : FnPX X.prog X.w X.K X.mg X.base k f sp) (hr : Room (k + 1) X.A) (hgd : X.A.guards = some []) (hm : X.mg x = some (.ref C)) (hg : Gl X x := by rfl) (hdb : (x == ("__debug__" : Str)) = false := by decide) :
    PE X (.Call (.Name x p1) [] [] pos) (tMakeX W C sp tNil) := by
  refine ⟨fun pins s σ H Q I h => wpAny_Call_Name_kw (ld_glob I hg hm ?_ hdb)⟩
  exact PySem.W.callWith_K0 I.kIn M.kp (run_makeX tk M F hr hgd I .nil h)
/-- C(*e) -/
theorem pe_makeSX (tk : Takes X W) (M : Mk X.K C f) (F : FnPX X.prog X.w X.K X.mg X.base k f sp) (hr : Room (k + 1) X.A) (hgd : X.A.guards = some []) (hm : X.mg x = some (.ref C)) (he : PE X e te) (hg : Gl X x := by rfl) (hdb : (x == ("__debug__" : Str)) = false := by decide)
    (hst : starEach [.Starred e sp_] X.env = [(true, eval e X.env)] := by rfl) : PE X (.Call (.Name x p1) [.Starred e sp_] [] pos) (tMakeX W C sp (tStar1 X.K te)) := by
  refine ⟨fun pins s σ H Q I h => wpAny_Call_Name_kw (ld_glob I hg hm ?_ hdb)⟩
  refine PySem.W.callWith_S (h₀ := X.base) I.ok.mod.kin M.kp (thn (he.run pins s σ H _ I h) fun v s1 ⟨y, H1, I1, ry, a, xs, ey, hxs, q⟩ => ?_) hst
  subst ey
  cases (show v = Value.ref a from ry)
  exact StX.star_any I1 hxs fun us s2 I2 rv => ⟨I2.kIn, run_makeX tk M F hr hgd I2 rv q⟩
/-! static methods -/
def tStaX (W : WX) (C : Addr) (sp : Sp) (te : TE) (t : TA) : TE := fun σ H Q => te σ H fun x H1 => x = .ref C ∧ t σ H1 fun vs H2 => sp vs H2 Q (wAt W σ)
theorem pe_staX (tk : Takes X W) (he : PE X o te) (r : ClX.CRead X.K C mc) (c : CSta X.K C mc m p0 g) (F : FnPX X.prog X.w X.K X.mg X.base k g sp) (hr : Room k X.A) (hgd : X.A.guards = some []) (ha : PA X (e :: es) t)
    (hst : starEach (e :: es) X.env = (false, eval e X.env) :: starEach es X.env := by rfl) (hpl : (backTo pos (starEach es X.env)).any (·.1) = false := by rfl)
    (ht : eval (.Call (.Attribute o m apos) (e :: es) [] pos) X.env = (do
      let ov ← eval o X.env
      standAt apos.atName
      let (f, first) ← holding [ov] (getMethod ov m pl)
      callWith pos f first (backTo pos (starEach (e :: es) X.env)) (backToKw pos (keywordEach [] X.env))) := by rfl) :
    PE X (.Call (.Attribute o m apos) (e :: es) [] pos) (tStaX W C sp te t) := by
  refine ⟨fun pins s σ H Q I h => ?_⟩
  refine PySem.W.methodCall_KW (pl := pl) (thn (he.run pins s σ H _ I h) fun u s1 ⟨x, H1, I1, rx, ex, q⟩ => ?_) ht
  subst ex
  cases (show u = Value.ref C from rx)
  refine getmethst_ok I1 r c fun s2 I2 => ?_
  refine PySem.W.callWith_K (first := []) (h₀ := X.base) I2.ok.mod.kin c.kp (thn (ha.run pos pins s2 σ H1 _ I2 q) fun us s3 ⟨vs, H2, I3, rv, q2⟩ => ⟨I3.kIn, ?_⟩) hst hpl
  exact wpAny_call (run_PX tk F hr hgd I3.env0 I3 rv q2)
theorem pe_staKX {fd : FuncData} {q : Str} {kws : List Keyword} {tkw : TA} (tk : Takes X W) (he : PE X o te) (r : ClX.CRead X.K C mc) (c : CSta X.K C mc m p0 g) (F : FnGX X.prog X.w X.K X.mg X.base k g fd [q] sp) (b : Kw1 fd [q]) (hr : Room k X.A) (hgd : X.A.guards = some [])
    (hkw : PK X kws tkw) (hall : (backToKw pos (keywordEach kws X.env)).all (·.1.isSome) = true := by rfl) (hks : (backToKw pos (keywordEach kws X.env)).filterMap (·.1) = [q] := by rfl)
    (hpl : ((backTo pos (starEach [] X.env)).any (·.1) || (backToKw pos (keywordEach kws X.env)).any (·.1.isNone)) = false := by rfl)
    (ht : eval (.Call (.Attribute o m apos) [] kws pos) X.env = (do
      let ov ← eval o X.env
      standAt apos.atName
      let (f, first) ← holding [ov] (getMethod ov m pl)
      callWith pos f first (backTo pos (starEach [] X.env)) (backToKw pos (keywordEach kws X.env))) := by rfl) :
    PE X (.Call (.Attribute o m apos) [] kws pos) (tStaX W C sp te tkw) := by
  refine ⟨fun pins s σ H Q I h => ?_⟩
  refine PySem.W.methodCall_KW (pl := pl) (thn (he.run pins s σ H _ I h) fun u s1 ⟨x, H1, I1, rx, ex, q⟩ => ?_) ht
  subst ex
  cases (show u = Value.ref C from rx)
  refine getmethst_ok I1 r c fun s2 I2 => ?_
  refine PySem.W.callWith_KW0 (h₀ := X.base) I2.ok.mod.kin c.kp hall ?_ hpl
  refine thn (hkw.run pos pins s2 σ H1 _ I2 q) fun ws s3 ⟨zs, H2, I3, rz, q2⟩ => ⟨I3.kIn, ?_⟩
  rw [hks]
  have hl : zs.length = 1 := F.len _ _ _ _ q2
  cases rz with
  | nil => cases hl
  | @cons z u zr ur h1 more =>
    cases more with
    | cons _ _ => cases hl
    | nil =>
      have b1 : BindsTo s3 fd ⟨[], [(_, u)]⟩ ([_].zip [u]) := .of_eq (b _ u rfl)
      exact wpAny_call (run_GX tk F hr hgd I3 (us := [u]) (vs := [z]) b1 (.cons h1 .nil) q2)
end
end Rx

set_option Elab.async false
set_option linter.all false
set_option maxRecDepth 100000
set_option maxHeartbeats 4000000
namespace Rx
open PySem L2 Lay Own PySem.Spec PyProof.Rows Exv
/-! ### an own error made and raised -/
section
variable {X : Cx} {x : Str} {C : Addr} {B newId initId : String} {bmB : List Value} {ps : List Str} {n : Nat} {mk : List V → List (Str × V)} {e : Expr} {es : List Expr} {t : TA} {p pos : Pos} {W : WX}
/-- C(..), to be raised: its dict tells the fields -/
def tMkR (H0 : Hp) (C : Addr) (n : Nat) (mk : List V → List (Str × V)) (t : TA) : L2.St → Hp → XK → Prop := fun σ H Q => t σ H fun vs H1 => vs.length = n ∧ mk vs ≠ [] ∧ (∀ a, H1 a = none → Fr0 H0 a) ∧ ∀ d H2, L2.Same H1 H2 → H2 d = some (exd d (mk vs)) → Q (.ref C) (some d) H2
theorem pmk_mk (hx : X.ex = []) (b : Bs B newId initId bmB) (D : Ec X.prog X.w X.K X.mg X.base x C newId bmB ps n mk) (hn : n ≤ 1000) (hr : Room 2 X.A) (ha : PA X (e :: es) t) (hg : Gl X x := by rfl)
    (hdb : (x == ("__debug__" : Str)) = false := by decide) (he : starEach (e :: es) X.env = (false, eval e X.env) :: starEach es X.env := by rfl) (hpl : (backTo pos (starEach es X.env)).any (·.1) = false := by rfl) :
    PMk X (.Call (.Name x p) (e :: es) [] pos) (tMkR X.H_0 C n mk t) := by
  obtain ⟨fI, fd, hi, tI, F, hb, _⟩ := D.ini
  intro pins s σ H Q I h
  refine wpAny_Call_Name_kw (ld_glob I hg D.g ?_ hdb)
  refine PySem.W.callWith_K (h₀ := X.base) I.ok.mod.kin D.cl.kC (thn (ha.run pos pins s σ H _ I h) fun us s1 ⟨vs, H1, I1, r, l, hne, h0, q⟩ => ⟨I1.kIn, ?_⟩) he hpl
  have hz : us.length ≤ sizeLine := by rw [← r.length, l]; exact Nat.le_trans hn (by decide)
  refine wpAny_mono (run_mk (Q := fun v H2 => ∃ a, v = .ref a ∧ H1 a = none ∧ L2.Same H1 H2 ∧ IsExc H2 a C (mk vs) vs) (ws := []) (zs := []) b D.cl hi tI F hr (kb_pos hb) I1 r .nil hz (fun a => ⟨vs, rfl, l, rfl⟩)
    fun a H2 h1 h2 h3 => ⟨a, rfl, h1, h2, h3⟩) (fun u s2 hu => ?_) fun _ _ z => z
  obtain ⟨v, H2, I2, rv, a, ev, na, sm, tt, ht, hh⟩ := hu
  subst ev
  cases (show u = Value.ref a from rv)
  rcases hh with ⟨z, _⟩ | ⟨d, ea, ed⟩
  · exact absurd z hne
  · have oa := exo_at I2.hok ea
    obtain ⟨mA, hns, _⟩ := exd_at I2.hok ed
    have nad : d ≠ a := fun z => by
      obtain ⟨od, es, ep, e1, e2, _⟩ := hns
      rw [z, oa] at e1
      cases e1
      cases e2
    obtain ⟨G, gs, ga, J⟩ := I2.untrack ea (h0 a na) hx
    refine ⟨a, _, _, { s2 with heap := G }, delH H2 a, .ref C, some d, rfl, J, gs, ga, oa, ⟨rfl, rfl⟩, rfl, rfl, delH_same, rfl, I2.bare, raises_own D.cl.exC D.cl.tyC, ?_⟩
    refine q d _ (fun b o eb => ?_) ?_
    · rw [delH_ne (ne_of_none eb na)]
      exact sm _ _ eb
    · rw [delH_ne nad]
      exact ed
end
end Rx

set_option Elab.async false
set_option linter.all false
set_option maxRecDepth 100000
set_option maxHeartbeats 4000000
namespace Rx
open PySem L2 Lay Own PySem.Spec PyProof.Rows Exv
/-! ### try, with except clauses that all name what they caught by the same name -/
/-- behind a suite its name is gone -/
def endI (i : Nat) (D : Ends) : Ends := { nx := fun τ G => D.nx (τ.set i none) G, rt := D.rt, bk := fun τ G => D.bk (τ.set i none) G, ct := fun τ G => D.ct (τ.set i none) G }
abbrev Clause := Value × (Addr → Value → Option Addr → TS)
/-- what the clauses wish, one behind the other; one of them fits -/
def wAll (K : PySem.W.Frag) (i : Nat) (D : Ends) : List Clause → WX
  | [] => fun _ _ _ _ => False
  | q :: more => fun cls d τ G => ∃ fits, PySem.W.exmOne K cls q.1 = some fits ∧ (fits = true → ∀ e, G e = none → q.2 e cls d (endI i D) (τ.set i (some (.ref e))) G) ∧ (fits = false → wAll K i D more cls d τ G)
inductive Hds (X : Cx) (n : Str) : List ExceptHandler → List Clause → Prop
  | nil : Hds X n [] []
  | cons {x : Str} {c : Value} {ts : Addr → Value → Option Addr → TS} {first : Stmt} {suite : List Stmt} {np hp : Pos} {more : List ExceptHandler} {l : List Clause} (nm : Names X x c)
      (su : ∀ (e : Addr) (ob : Obj) (cls : Value) (d : Option Addr) (pn : List (Addr × Obj)), Zc cls d ob → (∃ vs, ob.data = .fields vs) → PSs (X.suite e ((e, ob) :: pn)) (first :: suite) (ts e cls d)) (r : Hds X n more l) :
      Hds X n (.ExceptHandler (some (.Name x np)) (some n) (first :: suite) hp :: more) ((c, ts) :: l)
section
variable {X : Cx} {n : Str} {i : Nat} {body : List Stmt} {h0 : ExceptHandler} {hds : List ExceptHandler} {l : List Clause} {pos : Pos} {tb : WX → TS}
theorem ps_tryA (hs : X.stack = X.env :: X.outer) (hf : X.env.frame = some X.env.locals) (hN : X.N.Nodup) (hi : X.N[i]? = some n) (hln : X.env.kindOf n = some .local)
    (hb : ∀ (W : WX) (pn : List (Addr × Obj)) (xe : Value → Shared → Prop), Takes (X.tr pn xe) W → PassesOwn (model X.prog X.w) X.A X.env xe → PSs (X.tr pn xe) body (tb W)) (hh : Hds X n (h0 :: hds) l) :
    PS X (.Try body (h0 :: hds) [] [] pos) (fun D σ H => tb (wAll X.K i D l) D σ H) := by
  refine ⟨fun pins s σ H D I h => wpAny_Try_except ?_⟩
  have ok := I.ok
  have frames : X.A.frames = some (X.env :: X.outer) := by rw [ok.frames, hs]
  have run := (hb (wAll X.K i D l) (X.pn ++ pins) (fun e s1 => wpAny (model X.prog X.w) X.A (noteFrame e X.env) (fun _ s2 => wpAny (model X.prog X.w) X.A (setFlight e none)
    (fun _ s3 => wpAny (model X.prog X.w) X.A (handleBy e X.env (h0 :: hds)) (SP X pins D) X.xe s3) X.xe s2) X.xe s1) (fun u s' air => ?caught) PassesOwn.looking).run [] s σ H D (I.toTry _) h
  case caught =>
    obtain ⟨e, B, sI, pins', τ, G, cls, d, rfl, J', nb, up, sky, ne, os, ag, w⟩ := air
    have J : Inv X pins τ G sI := J'.ofTry ok
    rw [show (X.tr (X.pn ++ pins) (fun e s1 => wpAny (model X.prog X.w) X.A (noteFrame e X.env) (fun _ s2 => wpAny (model X.prog X.w) X.A (setFlight e none)
      (fun _ s3 => wpAny (model X.prog X.w) X.A (handleBy e X.env (h0 :: hds)) (SP X pins D) X.xe s3) X.xe s2) X.xe s1)).stack = X.env :: X.outer from hs] at sky
    refine Sky.land Zc.steady frames hf sky fun hL flL upL => ?_
    have JL : Inv X pins τ G { s' with heap := hL } := J.landed nb flL.1 (up.trans upL) os ag
    obtain ⟨obL, vsL, eL, zL, dL⟩ := flL.there
    have off : e ∉ frs (X.env :: X.outer) := fun hm => by
      obtain ⟨_, o2, e2, nf⟩ := flL.2.2.1.mem hm
      rw [eL] at e2
      cases e2
      exact nf _ dL
    have nL : e ≠ X.env.locals := fun z => off (List.mem_filterMap.mpr ⟨X.env, List.mem_cons_self, by rw [hf, z]⟩)
    have nF : e ∉ X.fs := fun hm => by
      obtain ⟨en, hen, q⟩ := List.mem_filterMap.mp hm
      exact off (List.mem_filterMap.mpr ⟨en, List.mem_cons_of_mem _ hen, q⟩)
    have SL := JL.suite eL dL ne nL nF
    suffices go : ∀ {hs' : List ExceptHandler} {l' : List Clause}, Hds X n hs' l' → wAll X.K i D l' cls d τ G → wpAny (model X.prog X.w) X.A (handleBy (.ref e) X.env hs') (SP X pins D) X.xe { s' with heap := hL } from go hh w
    intro hs' l' hk
    induction hk with
    | nil => exact fun z => False.elim z
    | @cons x c ts first suite np hp more l2 nm su r ih =>
      rintro ⟨fits, hq, yes, no⟩
      refine wpAny_handleBy_cons (codeAny_handlers_test ?_) (fun z => by cases z)
      have ty : PySem.W.Looks (model X.prog X.w) hL (typeOf (.ref e)) cls := fun A Q E s k q => wpAny_typeOf_ref (k _ _ eL) (by rw [zL.1]; exact q)
      have LM := PySem.W.exm_one (M := model X.prog X.w) JL.kIn ty hq
      have named : ∀ {Q : Value → Shared → Prop} {E : Value → Shared → Prop}, Q c { s' with heap := hL } → wpAny (model X.prog X.w) (X.A.mark (some (.ref e))) (eval (.Name x np) X.env) Q E { s' with heap := hL } := by
        intro Q E q
        rcases nm with ⟨hg, hdb, hm | ⟨hm, hv, hnn⟩⟩
        · exact ld_glob (X := X.suite e ((e, obL) :: (X.pn ++ pins))) SL hg hm q hdb
        · exact ld_blt (X := X.suite e ((e, obL) :: (X.pn ++ pins))) SL hg hm hv q hnn hdb
      refine named (LM.here ?_)
      cases fits with
      | false => exact ih (no rfl)
      | true =>
        refine codeAny_handlers_suite_as (HandSPX.lands_againZ flL fun hM flM upM => ?_)
        have JM : Inv X pins τ G { s' with heap := hM } := J.landed nb flM.1 ((up.trans upL).trans upM) os ag
        obtain ⟨obM, vsM, eM, zM, dM⟩ := flM.there
        have SM := JM.suite eM dM ne nL nF
        refine store_ok (X := X.suite e ((e, obM) :: (X.pn ++ pins))) (v := .ref e) SM hN hi (.inl hln) rfl (fun s5 S5 => ?_) (.inr hln)
        refine wpAny_mono ((su e obM cls d (X.pn ++ pins) zM ⟨_, dM⟩).run [] s5 _ G _ S5 (yes rfl e ne)) (fun f s6 hsp => ?_) (fun _ _ z => False.elim z)
        have away : ∀ {τ6 : L2.St} {G6 : Hp} {Q : Shared → Prop}, Inv (X.suite e ((e, obM) :: (X.pn ++ pins))) [] τ6 G6 s6 → (∀ s7, Inv X pins (τ6.set i none) G6 s7 → Q s7) →
            wpAny (model X.prog X.w) X.A (do bindName X.env n .none; unbindBehindTheSuite X.env n hp) (fun _ s7 => Q s7) X.xe s6 := fun S6 hq => gone_ok (S6.unsuite ok) hN hi hln hq
        cases f with
        | next => exact hsp.elim fun τ6 hsp => hsp.elim fun G6 ⟨S6, q6⟩ => away S6 fun s7 J7 => ⟨_, _, J7, q6⟩
        | brk => exact hsp.elim fun τ6 hsp => hsp.elim fun G6 ⟨S6, q6⟩ => away S6 fun s7 J7 => ⟨_, _, J7, q6⟩
        | cont => exact hsp.elim fun τ6 hsp => hsp.elim fun G6 ⟨S6, q6⟩ => away S6 fun s7 J7 => ⟨_, _, J7, q6⟩
        | ret u => exact hsp.elim fun v6 hsp => hsp.elim fun τ6 hsp => hsp.elim fun G6 ⟨S6, r6, q6⟩ => away S6 fun s7 J7 => ⟨_, _, _, J7, r6, q6⟩
  refine wpAny_mono run (fun f s1 hsp => ?_) fun _ _ z => z
  cases f with
  | next => exact hsp.elim fun τ hsp => hsp.elim fun G ⟨J, q⟩ => wpAny_execs_nil ⟨τ, G, J.ofTry ok, q⟩
  | brk => exact hsp.elim fun τ hsp => hsp.elim fun G ⟨J, q⟩ => ⟨τ, G, J.ofTry ok, q⟩
  | cont => exact hsp.elim fun τ hsp => hsp.elim fun G ⟨J, q⟩ => ⟨τ, G, J.ofTry ok, q⟩
  | ret u => exact hsp.elim fun v hsp => hsp.elim fun τ hsp => hsp.elim fun G ⟨J, r, q⟩ => ⟨v, τ, G, J.ofTry ok, r, q⟩
end
/-! ### the caught error: its fields, its class -/
section
variable {X : Cx} {a C : Addr} {ob : Obj} {cls : Value} {d : Option Addr} {pn : List (Addr × Obj)} {e : Expr} {te : TE} {pos : Pos} {f : Str} {newId : String} {bmB : List Value}
def tCf (a : Addr) (cls : Value) (d : Option Addr) (C : Addr) (f : Str) (te : TE) : TE := fun σ H Q => te σ H fun x H1 => x = .ref a ∧ cls = .ref C ∧ ∃ (dd : Addr) (fs : List (Str × V)) (v : V), d = some dd ∧ H1 dd = some (exd dd fs) ∧ fs.lookup f = some v ∧ Q v H1
theorem pe_cf (T : Cl X.K C newId bmB) (hno : PySem.W.findIn X.K (.ref C) f = some none) (hz : Zc cls d ob) (hd : ∃ vs, ob.data = .fields vs) (he : PE (X.suite a ((a, ob) :: pn)) e te) (hb : attributeBase e f X.env (eval e X.env) = eval e X.env := by rfl) :
    PE (X.suite a ((a, ob) :: pn)) (.Attribute e f pos) (tCf a cls d C f te) := by
  refine ⟨fun pins s σ H Q I h => attr_of hb (thn (he.run pins s σ H _ I h) fun u s1 ⟨x, H1, I1, rx, ex, ec, dd, fs, v, ed, ea, lk, q⟩ => ?_)⟩
  subst ex ec ed
  cases (show u = Value.ref a from rx)
  obtain ⟨at_, _⟩ := I1.pin (a, ob) (List.mem_append_left _ List.mem_cons_self)
  obtain ⟨vs, hv⟩ := hd
  obtain ⟨mA, hns, rel⟩ := exd_at I1.hok ea
  obtain ⟨od, hod, hl⟩ := lookIn_ns hns
  obtain ⟨u2, hu, ru⟩ := RelO.some_of (v := v) (o := mA f) (by rw [← lk]; exact rel f)
  have J : PySem.W.InstAt s1.heap a ob C (some od) := ⟨at_, hz.1, by unfold PySem.W.notCls; rw [hv] <;> rfl, by rw [hz.2]; exact hod⟩
  exact HandSPX.exc_get I1.kIn J T.ga T.gg T.exC (PySem.W.findObj_own T.hd hno rfl (by rw [hl, hu])) (handed_of ru) ⟨v, H1, I1.tok _, ru, q⟩
/-- isinstance(e, D) of the caught e -/
def rCi (K : PySem.W.Frag) (a : Addr) (cls : Value) (d : Option Addr) (C : Addr) : List V → Hp → VK → Prop := fun xs H Q => ∃ (c : V) (u : Value) (b : Bool) (dd : Addr) (fs : List (Str × V)), xs = [.ref a, c] ∧ cls = .ref C ∧ d = some dd ∧ H dd = some (exd dd fs) ∧ ClsV c u ∧ PySem.W.kitOne K (.ref C) u = some b ∧ Q (.bl b) H
theorem call_ci (T : Cl X.K C newId bmB) (G : Gs X.K) (hz : Zc cls d ob) (hd : ∃ vs, ob.data = .fields vs) : CallR (X.suite a ((a, ob) :: pn)) (.builtin "isinstance") (rCi X.K a cls d C) := by
  intro pins s σ H xs us Q I r h
  obtain ⟨c, u, b, dd, fs, rfl, ec, ed, ea, k, e, q⟩ := h
  obtain ⟨u1, u2, rfl, r1, r2⟩ := vals2 r
  have e2 := k.eq r2
  subst e2 ec ed
  cases (show u1 = Value.ref a from r1)
  obtain ⟨at_, _⟩ := I.pin (a, ob) (List.mem_append_left _ List.mem_cons_self)
  obtain ⟨vs, hv⟩ := hd
  have hc : (PySem.W.clsIn X.K C).isSome = true := by
    obtain ⟨cd, bm, h1, _⟩ := T.cd
    rw [h1]; rfl
  obtain ⟨mA, hns, rel⟩ := exd_at I.hok ea
  obtain ⟨od, hod, hl⟩ := lookIn_ns hns
  have J : PySem.W.InstAt s.heap a ob C (some od) := ⟨at_, hz.1, by unfold PySem.W.notCls; rw [hv] <;> rfl, by rw [hz.2]; exact hod⟩
  exact PySem.W.kia_one (PySem.Exv.kit_exc T.ga T.gg T.exC T.hd (PySem.W.findObj_data hc T.ha G.hn G.ht) T.hm) I.kIn J e (fun z => nomatch z) fun tk => ⟨.bl b, H, I.tok tk, rfl, q⟩
end
end Rx

set_option Elab.async false
set_option linter.all false
set_option maxRecDepth 100000
set_option maxHeartbeats 4000000
namespace Rx
open PySem L2 Lay Own PySem.Spec PyProof.Rows LamX
/-! ### a lambda handed to a def, the guards known -/
section
variable {X : Cx} {pins : List (Addr × Obj)} {σ : L2.St} {H : Hp} {s : Shared}
/-- the parameter called, in the def that got the lambda -/
theorem pe_actG {CXg : CXT} {Eg : XK} {Ng : List Str} {qg a : Str} {sg scope : Scope} {g f c' : Addr} {cdg pm ctv : Value} {params : Arguments} {body : Expr} {k i : Nat} {pn : List (Addr × Obj)} {xe : Value → Shared → Prop} {W : WX} {t : XK → TE} {p1 p2 : Pos}
    (I : Inv X pins σ H s) (L : LamS X.env.scope scope) (hgA : X.A.guards = some [])
    (hf : s.heap.get? f = some (PySem.W.kla_obj "<lambda>" (X.env.qual ++ "<lambda>") params body scope (cloFrom X.env.cells scope.names []) pm c' ctv)) (hfn : H f = none) (hfr : f ∉ frs X.stack)
    (bnd : bindArgs (PySem.W.kla_fn "<lambda>" (X.env.qual ++ "<lambda>") params body scope (cloFrom X.env.cells scope.names []) pm (.ref c') ctv) ⟨[], []⟩ = pure [])
    (tk : Takes ((cxOf CXg X.prog X.w X.K X.mg X.base Ng qg sg g cdg X.A X.stack s H Eg).tr pn xe) W) (hr : Room (k + 1) (X.A.deeper (envOfC qg sg s.heap.objs.size g cdg)))
    (walk : ∀ (E : XK) (A : Around) (outer : List Env) (s : Shared) (H : Hp), Room k (A.deeper (lamEnv X scope s.heap.objs.size f c')) → A.guards = some [] → PE (lamCx X A outer s H E scope f c') body (t E))
    (hN : Ng[i]? = some a) (hv : Vis sg a) (hd : (a == ("__debug__" : Str)) = false) (hcd : (a == ("__classdict__" : Str)) = false) :
    PE ((cxOf CXg X.prog X.w X.K X.mg X.base Ng qg sg g cdg X.A X.stack s H Eg).tr pn xe) (.Call (.Name a p1) [] [] p2)
      (fun τ G Q => ∃ E : XK, (∀ cls d G', E cls d G' → W cls d τ G') ∧ τ[i]? = some (some (.ref f)) ∧ G c' = some (CodeO c' (X.env.qual ++ "<lambda>")) ∧ t E σ G Q) := by
  refine ⟨fun pinsZ sZ τ G Q IZ ⟨E, hW, slot, code, rd⟩ => ?_⟩
  have name := (pe_var (X := (cxOf CXg X.prog X.w X.K X.mg X.base Ng qg sg g cdg X.A X.stack s H Eg).tr pn xe) (pos := p1) (i := i) hN hv hd hcd).run pinsZ sZ τ G (fun v G1 => v = .ref f ∧ G1 = G) IZ ⟨.ref f, slot, rfl, rfl⟩
  refine wpAny_Call_Name_kw (thn name fun u s1 ⟨v, G1, I1, r1, ev, eG⟩ => ?_)
  subst ev
  rw [eG] at I1
  cases (show u = Value.ref f from r1)
  have stays : s1.heap.get? f = some (PySem.W.kla_obj "<lambda>" (X.env.qual ++ "<lambda>") params body scope (cloFrom X.env.cells scope.names []) pm c' ctv) :=
    I1.base.keep f _ hf hfn hfr fun z => by cases (show f ∈ ([] : List Addr) from z)
  have same : Un (frs X.stack) [] H G s.heap s1.heap := I1.base
  refine PySem.W.callWith_F0 ⟨_, _, _, _, stays⟩ ?_
  obtain ⟨⟨oc, vs, t, hoc, hdc, hvc⟩, _, _⟩ := I1.hok c' _ code
  have called : codeAny (model X.prog X.w) (X.A.deeper (envOfC qg sg s.heap.objs.size g cdg)) (.call (.ref f) ⟨[], []⟩) (CR (L2.CX X.prog X.w) (envOfC qg sg s.heap.objs.size g cdg :: X.stack) X.prog X.w G s1 Q E) s1 := by
    refine PySem.W.kla_callFunE hr.depth stays rfl L.co L.gen rfl ⟨c', oc, vs, t, rfl, hoc, hdc, hvc⟩ ?_
    rw [bnd]
    refine wpAny_pure (wpAny_newFunctionEnv (fun y hy => (L.own y hy).2) (fun y hy => by cases hy) (fun h1 ns but => ⟨I1.nolimit.fresh _ but, ?_⟩) L.kind)
    show codeAny _ _ (.expr body (lamEnv X scope s1.heap.objs.size f c')) _ _
    have J : Inv (lamCx X (X.A.deeper (envOfC qg sg s.heap.objs.size g cdg)) (envOfC qg sg s.heap.objs.size g cdg :: X.stack) s1 G E scope f c') [] σ G { s1 with heap := h1, toks := s1.toks + ([] : List (Str × Value)).length } :=
      lam_start2 I L I1.env0 hr.hd same ns fun b o e => but.extBut b o (Nat.ne_of_lt (Heap.lt_size e)) (Heap.get?_push_of_some _ e)
    have ran := (walk E _ _ s1 G (hr.deeper _) hgA).run [] _ _ G Q J rd
    exact PySem.W.kla_codeExpr (wpAny_mono ran (fun v s' ⟨w', G', J', rv, q⟩ => ⟨w', G', J'.os, J'.bare, J'.base, J'.hok, rv, q⟩) fun e s' z => z)
  refine wpAny_call (codeAny_mono called fun r s' hq => ?_)
  cases r with
  | error e => exact tk e s' (XE.of_call I1 hW hq)
  | ok fl => cases fl with
    | ret u => exact I1.after hq
    | _ => exact False.elim hq
/-- the def that calls what it got; TT: what it makes of the lambda's reading -/
def GivesW (X : Cx) (Ng : List Str) (x : Str) (sg : Scope) (g : Addr) (cdg : Value) (bg : List Stmt) (a q : Str) (TT : (XK → Hp → VK → Prop) → Hp → VK → Prop) : Prop :=
  ∀ (f c' : Addr) (s : Shared) (H : Hp) (Q : VK) (tl : XK → Hp → VK → Prop),
    (∀ (W : WX) (pn : List (Addr × Obj)) (xe : Value → Shared → Prop) (p1 p2 : Pos), Takes ((cxOf C8.CX0 X.prog X.w X.K X.mg X.base Ng x sg g cdg X.A X.stack s H C8.E0).tr pn xe) W →
      PE ((cxOf C8.CX0 X.prog X.w X.K X.mg X.base Ng x sg g cdg X.A X.stack s H C8.E0).tr pn xe) (.Call (.Name a p1) [] [] p2)
        (fun τ G Q' => ∃ E : XK, (∀ cls d G', E cls d G' → W cls d τ G') ∧ τ[0]? = some (some (.ref f)) ∧ G c' = some (CodeO c' q) ∧ tl E G Q')) →
    H c' = some (CodeO c' q) → TT tl H Q →
    ∃ t, PSs (cxOf C8.CX0 X.prog X.w X.K X.mg X.base Ng x sg g cdg X.A X.stack s H C8.E0) bg t ∧ t { nx := fun _ H' => Q .non H', rt := Q } (L2.start Ng [.ref f]) H
/-- x(lambda: body), the guards known -/
theorem pe_lamG {T : List (Addr × Str)} {TT : (XK → Hp → VK → Prop) → Hp → VK → Prop} {x a : Str} {g c P : Addr} {k : Nat} {pg params : Arguments} {bg : List Stmt} {sg scope : Scope} {dV kV doc pm cdv ct oc : Value} {an od : Option Addr} {osl : Array (Option Value)} {Ng : List Str}
    {body : Expr} {t : XK → TE} {p lpos pos : Pos} (hgA : X.A.guards = some []) (hm : X.mg x = some (.ref g)) (hk : PySem.W.keepIn X.K (.ref g) = true)
    (lk : X.K.lookup g = some ⟨oc, od, .func (PySem.W.fnOf x x pg bg sg dV kV doc pm an cdv ct), osl⟩) (hcg : PySem.W.codeIn X.K cdv x = true) (hb : L2.Binds X.K (PySem.W.fnOf x x pg bg sg dV kV doc pm an cdv ct) [a] []) (Sg : FnScope Ng [a] sg) (hNg : Ng[0]? = some a) (hva : Vis sg a)
    (hG : GivesW X Ng x sg g cdv bg a (X.env.qual ++ "<lambda>") TT) (TB : TabB X.base X.mg c P) (hcode : X.env.code = .ref c) (hmT : (P, X.env.qual ++ "<lambda>") ∈ T) (hu : ∀ p ∈ T, p.1 = P → p.2 = X.env.qual ++ "<lambda>") (hr : Room (k + 2) X.A)
    (L : LamS X.env.scope scope) (hdef : defaultsOf params X.env = ([], [])) (hbind : ∀ (q : Str) (cl : List (Str × Addr)) (pm cv ctv : Value), bindArgs (PySem.W.kla_fn "<lambda>" q params body scope cl pm cv ctv) ⟨[], []⟩ = pure [])
    (walk : ∀ (A : Around) (outer : List Env) (s : Shared) (H : Hp) (E : XK) (f c' : Addr), Room k (A.deeper (lamEnv X scope s.heap.objs.size f c')) → A.guards = some [] → PE (lamCx X A outer s H E scope f c') body (t E))
    (hg : Gl X x := by rfl) (hdb : (x == ("__debug__" : Str)) = false := by decide) (hd : (a == ("__debug__" : Str)) = false := by decide) (hcd : (a == ("__classdict__" : Str)) = false := by decide) :
    PE X (.Call (.Name x p) [.Lambda params body scope lpos] [] pos) (tLam T TT t) := by
  refine ⟨fun pins s σ H Q I ⟨hT, h⟩ => wpAny_Call_Name_kw (ld_glob I hg hm (PySem.W.callWith_K (h₀ := X.base) I.ok.mod.kin hk ?_ (by rfl) (by rfl)) hdb)⟩
  show wpAny _ _ (spliced ((false, eval (.Lambda params body scope lpos) X.env) :: backTo pos (starEach [] X.env))) _ _ s
  refine Calls.spliced_cons (lam_make2 I TB hcode hmT hu hT hdef (L.has I.ok) fun f c' pm' ctv H1 s' I1 eN T1 hf hfn hfr hco => Calls.spliced_nil ⟨I1.kIn, ?_⟩)
  have called : codeAny (model X.prog X.w) X.A (.call (.ref g) ⟨[.ref f], []⟩) (CR C8.CX0 X.stack X.prog X.w H1 s' Q C8.E0) s' := by
    refine run_ofS (N := Ng) (ps := [a]) (us := [.ref f]) (vs := [.ref f]) lk hcg Sg hr I1.env0 (hb s' [.ref f] I1.kIn rfl) (.cons rfl .nil) rfl fun hr' => ?_
    have act := hG f c' s' H1 Q (fun E G Q' => t E σ G Q') (fun W pn xe p1 p2 tk => pe_actG (i := 0) (t := t) I1 L hgA hf hfn hfr (hbind _ _ _ _ _) tk hr' (fun E A outer s H hr2 hg2 => walk A outer s H E f c' hr2 hg2) hNg hva hd hcd) hco (h H1 eN T1)
    exact act
  refine wpAny_call (codeAny_mono called fun r s2 hq => ?_)
  cases r with
  | error e => exact False.elim hq
  | ok fl => cases fl with
    | ret u => exact I1.after hq
    | _ => exact False.elim hq
end
end Rx

set_option Elab.async false
set_option linter.all false
set_option maxRecDepth 100000
set_option maxHeartbeats 4000000
/-- addresses: the class, a static method's def -/
def kc (K : PySem.W.Frag) : PySem.Addr := He.ga K "Kind"
namespace Kd
open PySem
def rc (K : PySem.W.Frag) (m kind : String) : Addr := match PySem.W.recIn K (He.ma K (kc K) m) kind with
  | some (.ref g :: _) => g
  | _ => 0
def st (K : PySem.W.Frag) (m : String) : Addr := rc K m "staticmethod"
end Kd
namespace K13
open PySem L2 Lay Own
def top (i : Nat) : Stmt := PySem.Challenge.pw_twoeach_k13_kinds_refused.main.body.getD i (.Pass ⟨0, 0, 0, 0⟩)
def inClass (s : Stmt) (j : Nat) : Stmt := match s with
  | .ClassDef _ _ _ b _ _ _ _ _ _ _ => b.getD j (.Pass ⟨0, 0, 0, 0⟩)
  | _ => .Pass ⟨0, 0, 0, 0⟩
abbrev s_is_integer : Stmt := top 3
theorem sc_is_integer : FnScope ["value"] ["value"] (defScope s_is_integer) := ⟨rfl, rfl, rfl, by decide +kernel, rfl, by decide +kernel, by decide +kernel⟩
abbrev s_is_name : Stmt := top 4
theorem sc_is_name : FnScope ["value"] ["value"] (defScope s_is_name) := ⟨rfl, rfl, rfl, by decide +kernel, rfl, by decide +kernel, by decide +kernel⟩
abbrev s_is_list : Stmt := top 5
theorem sc_is_list : FnScope ["value"] ["value"] (defScope s_is_list) := ⟨rfl, rfl, rfl, by decide +kernel, rfl, by decide +kernel, by decide +kernel⟩
abbrev s_in_order : Stmt := top 12
theorem sc_in_order : FnScope ["rows", "half"] ["rows"] (defScope s_in_order) := ⟨rfl, rfl, rfl, by decide +kernel, rfl, by decide +kernel, by decide +kernel⟩
abbrev s_merged : Stmt := top 13
theorem sc_merged : FnScope ["one", "other", "out", "at", "beside"] ["one", "other"] (defScope s_merged) := ⟨rfl, rfl, rfl, by decide +kernel, rfl, by decide +kernel, by decide +kernel⟩
abbrev s_is_distance : Stmt := top 17
theorem sc_is_distance : FnScope ["value"] ["value"] (defScope s_is_distance) := ⟨rfl, rfl, rfl, by decide +kernel, rfl, by decide +kernel, by decide +kernel⟩
abbrev s_is_entry : Stmt := top 18
theorem sc_is_entry : FnScope ["value", "across", "up", "name"] ["value"] (defScope s_is_entry) := ⟨rfl, rfl, rfl, by decide +kernel, rfl, by decide +kernel, by decide +kernel⟩
abbrev s_check_entries : Stmt := top 19
theorem sc_check_entries : FnScope ["entries", "position", "entry"] ["entries"] (defScope s_check_entries) := ⟨rfl, rfl, rfl, by decide +kernel, rfl, by decide +kernel, by decide +kernel⟩
abbrev s_normed : Stmt := top 20
theorem sc_normed : FnScope ["entries", "low", "bottom", "entry", "across", "up", "name"] ["entries"] (defScope s_normed) := ⟨rfl, rfl, rfl, by decide +kernel, rfl, by decide +kernel, by decide +kernel⟩
abbrev s_reach_of : Stmt := top 21
theorem sc_reach_of : FnScope ["entries", "entry"] ["entries"] (defScope s_reach_of) := ⟨rfl, rfl, rfl, by decide +kernel, rfl, by decide +kernel, by decide +kernel⟩
abbrev s_check_reach : Stmt := top 22
theorem sc_check_reach : FnScope ["reach", "across", "up"] ["reach"] (defScope s_check_reach) := ⟨rfl, rfl, rfl, by decide +kernel, rfl, by decide +kernel, by decide +kernel⟩
abbrev s_l_pot : Stmt := top 28
theorem sc_l_pot : FnScope ["_law_script", "_law_k", "_law_cell"] ["_law_script", "_law_k"] (defScope s_l_pot) := ⟨rfl, rfl, rfl, by decide +kernel, rfl, by decide +kernel, by decide +kernel⟩
abbrev s_l_draw : Stmt := top 29
theorem sc_l_draw : FnScope ["_law_pot_here", "_law_many", "_law_digit"] ["_law_pot_here", "_law_many"] (defScope s_l_draw) := ⟨rfl, rfl, rfl, by decide +kernel, rfl, by decide +kernel, by decide +kernel⟩
abbrev s_l_among : Stmt := top 30
theorem sc_l_among : FnScope ["_law_pot_here", "_law_some"] ["_law_pot_here", "_law_some"] (defScope s_l_among) := ⟨rfl, rfl, rfl, by decide +kernel, rfl, by decide +kernel, by decide +kernel⟩
abbrev s_l_names : Stmt := top 31
theorem sc_l_names : FnScope ["_law_pot_here", "_law_many", "_law_letters", "_law_found", "_law_turn", "_law_far", "_law_word", "_law_fresh", "_law_sign", "_law_one"] ["_law_pot_here", "_law_many"] (defScope s_l_names) := ⟨rfl, rfl, rfl, by decide +kernel, rfl, by decide +kernel, by decide +kernel⟩
abbrev s_l_normed : Stmt := top 32
theorem sc_l_normed : FnScope ["_law_some", "_law_left", "_law_low", "_law_part"] ["_law_some"] (defScope s_l_normed) := ⟨rfl, rfl, rfl, by decide +kernel, rfl, by decide +kernel, by decide +kernel⟩
abbrev s_l_entries : Stmt := top 33
theorem sc_l_entries : FnScope ["_law_pot_here", "_law_tags", "_law_broad", "_law_high", "_law_free", "_law_across", "_law_up", "_law_found", "_law_turn", "_law_tag"] ["_law_pot_here", "_law_tags"] (defScope s_l_entries) := ⟨rfl, rfl, rfl, by decide +kernel, rfl, by decide +kernel, by decide +kernel⟩
abbrev s_l_kind : Stmt := top 34
theorem sc_l_kind : FnScope ["_law_some"] ["_law_some"] (defScope s_l_kind) := ⟨rfl, rfl, rfl, by decide +kernel, rfl, by decide +kernel, by decide +kernel⟩
abbrev s_l_heard : Stmt := top 35
theorem sc_l_heard : FnScope ["_law_call", "_law_heard_here", "e"] ["_law_call"] (defScope s_l_heard) := ⟨rfl, rfl, rfl, by decide +kernel, rfl, by decide +kernel, by decide +kernel⟩
abbrev s_l_odd : Stmt := top 36
theorem sc_l_odd : FnScope ["_law_pot_here", "_law_part", "_law_across", "_law_up", "_law_tag", "_law_some"] ["_law_pot_here", "_law_part"] (defScope s_l_odd) := ⟨rfl, rfl, rfl, by decide +kernel, rfl, by decide +kernel, by decide +kernel⟩
abbrev s_l_both_right : Stmt := top 37
theorem sc_l_both_right : FnScope ["_law_some", "_law_due", "_law_kept", "_law_told"] ["_law_some", "_law_due"] (defScope s_l_both_right) := ⟨rfl, rfl, rfl, by decide +kernel, rfl, by decide +kernel, by decide +kernel⟩
abbrev s_l_spoilt_right : Stmt := top 38
theorem sc_l_spoilt_right : FnScope ["_law_pot_here", "_law_some", "_law_at", "_law_way", "_law_bad", "_law_spoilt", "_law_part"] ["_law_pot_here", "_law_some"] (defScope s_l_spoilt_right) := ⟨rfl, rfl, rfl, by decide +kernel, rfl, by decide +kernel, by decide +kernel⟩
abbrev s_l_far_right : Stmt := top 39
theorem sc_l_far_right : FnScope ["_law_pot_here", "_law_some", "_law_across", "_law_up", "_law_few", "_law_left", "_law_low", "_law_moved", "_law_corner", "_law_spread", "_law_broad", "_law_part"] ["_law_pot_here", "_law_some"] (defScope s_l_far_right) := ⟨rfl, rfl, rfl, by decide +kernel, rfl, by decide +kernel, by decide +kernel⟩
abbrev s_l_few_right : Stmt := top 40
theorem sc_l_few_right : FnScope ["_law_some", "_law_due", "_law_few", "_law_many", "_law_more", "_law_thing", "_law_k"] ["_law_some"] (defScope s_l_few_right) := ⟨rfl, rfl, rfl, by decide +kernel, rfl, by decide +kernel, by decide +kernel⟩
abbrev s_l_right : Stmt := top 41
theorem sc_l_right : FnScope ["_law_pot_here", "_law_tags", "_law_some", "_law_turn", "_law_told"] ["_law_pot_here"] (defScope s_l_right) := ⟨rfl, rfl, rfl, by decide +kernel, rfl, by decide +kernel, by decide +kernel⟩
abbrev s_law : Stmt := top 42
theorem sc_law : FnScope ["_law_script", "_law_k"] ["_law_script"] (defScope s_law) := ⟨rfl, rfl, rfl, by decide +kernel, rfl, by decide +kernel, by decide +kernel⟩
abbrev s_Kind_of : Stmt := inClass (top 26) 3
theorem sc_Kind_of : FnScope ["entries"] ["entries"] (defScope s_Kind_of) := ⟨rfl, rfl, rfl, by decide +kernel, rfl, by decide +kernel, by decide +kernel⟩
abbrev s_Kind_entries : Stmt := inClass (top 26) 6
theorem sc_Kind_entries : FnScope ["self"] ["self"] (defScope s_Kind_entries) := ⟨rfl, rfl, rfl, by decide +kernel, rfl, by decide +kernel, by decide +kernel⟩
abbrev s_Kind___eq : Stmt := inClass (top 26) 16
theorem sc_Kind___eq : FnScope ["self", "other"] ["self", "other"] (defScope s_Kind___eq) := ⟨rfl, rfl, rfl, by decide +kernel, rfl, by decide +kernel, by decide +kernel⟩
abbrev s_Kind___init : Stmt := inClass (top 26) 2
theorem sc_Kind___init : FnScope ["self", "entries", "own", "reach"] ["self", "entries"] (defScope s_Kind___init) := ⟨rfl, rfl, rfl, by decide +kernel, rfl, by decide +kernel, by decide +kernel⟩
/-- a method of the class -/
def Ms (K : PySem.W.Frag) (m qual : Str) (s : Stmt) (f : Addr) (ps : List Str) : Prop := ∃ fd, Fun K m qual s f fd ∧ Binds K fd ps [] ∧ Kw1 fd ps
def Ty7 : List String := ["NoneType", "bool", "int", "str", "list", "tuple", "dict"]
structure Txt (K : PySem.W.Frag) (mg : Str → Option Value) : Prop where
  n_len : mg "len" = none
  n_int : mg "int" = none
  n_abs : mg "abs" = none
  n_max : mg "max" = none
  n_min : mg "min" = none
  n_divmod : mg "divmod" = none
  n_isinstance : mg "isinstance" = none
  n_bool : mg "bool" = none
  n_str : mg "str" = none
  n_repr : mg "repr" = none
  n_range : mg "range" = none
  n_all : mg "all" = none
  n_any : mg "any" = none
  n_tuple : mg "tuple" = none
  n_list : mg "list" = none
  n_sorted : mg "sorted" = none
  n_set : mg "set" = none
  n_enumerate : mg "enumerate" = none
  c_MOST_LETTERS : ∃ u, mg "MOST_LETTERS" = some u ∧ RelV (.int 8) u
  c_FARTHEST : ∃ u, mg "FARTHEST" = some u ∧ RelV (.int 20) u
  c_FEWEST_ENTRIES : ∃ u, mg "FEWEST_ENTRIES" = some u ∧ RelV (.int 2) u
  S_is_integer : Src K mg "is_integer" s_is_integer ["value"]
  S_is_name : Src K mg "is_name" s_is_name ["value"]
  S_is_list : Src K mg "is_list" s_is_list ["value"]
  S_in_order : Src K mg "in_order" s_in_order ["rows"]
  S_merged : Src K mg "merged" s_merged ["one", "other"]
  S_is_distance : Src K mg "is_distance" s_is_distance ["value"]
  S_is_entry : Src K mg "is_entry" s_is_entry ["value"]
  S_check_entries : Src K mg "check_entries" s_check_entries ["entries"]
  S_normed : Src K mg "normed" s_normed ["entries"]
  S_reach_of : Src K mg "reach_of" s_reach_of ["entries"]
  S_check_reach : Src K mg "check_reach" s_check_reach ["reach"]
  S_l_pot : Src K mg "_law_pot" s_l_pot ["_law_script", "_law_k"]
  S_l_draw : Src K mg "_law_draw" s_l_draw ["_law_pot_here", "_law_many"]
  S_l_among : Src K mg "_law_among" s_l_among ["_law_pot_here", "_law_some"]
  S_l_names : Src K mg "_law_names" s_l_names ["_law_pot_here", "_law_many"]
  S_l_normed : Src K mg "_law_normed" s_l_normed ["_law_some"]
  S_l_entries : Src K mg "_law_entries" s_l_entries ["_law_pot_here", "_law_tags"]
  S_l_kind : Src K mg "_law_kind" s_l_kind ["_law_some"]
  S_l_heard : Src K mg "_law_heard" s_l_heard ["_law_call"]
  S_l_odd : Src K mg "_law_odd" s_l_odd ["_law_pot_here", "_law_part"]
  S_l_both_right : Src K mg "_law_both_right" s_l_both_right ["_law_some", "_law_due"]
  S_l_spoilt_right : Src K mg "_law_spoilt_right" s_l_spoilt_right ["_law_pot_here", "_law_some"]
  S_l_far_right : Src K mg "_law_far_right" s_l_far_right ["_law_pot_here", "_law_some"]
  S_l_few_right : Src K mg "_law_few_right" s_l_few_right ["_law_some"]
  S_l_right : Src K mg "_law_right" s_l_right ["_law_pot_here"]
  S_law : Src K mg "law" s_law ["_law_script"]
  g_Kind : mg "Kind" = some (.ref (kc K))
  cls : Cls K (kc K)
  maker : Mk K (kc K) (He.ma K (kc K) "__init__")
  cr : ∃ mc, ClX.CRead K (kc K) mc ∧ (∃ p, CSta K (kc K) mc "of" p (Kd.st K "of")) ∧ (∃ u, ClX.CVal K (kc K) mc "MOST_ENTRIES" (.int 6) u) ∧ (∃ u, ClX.CVal K (kc K) mc "MOST_REACH" (.int 3) u)
  m_entries : Meth K (kc K) "entries" (He.ma K (kc K) "entries")
  f___eq__ : PySem.W.findIn K (.ref (kc K)) "__eq__" = some (some (.ref (He.ma K (kc K) "__eq__")))
  i___eq__ : PySem.W.isFn K (.ref (He.ma K (kc K) "__eq__")) = true
  ne : PySem.W.findIn K (.ref (kc K)) "__ne__" = some (some (.builtin "object.__ne__"))
  mo : PySem.W.mroIn K (kc K) (.type "object") = some true
  no_entries : NoAttr K (kc K) "_entries"
  no_reach : NoAttr K (kc K) "_reach"
  M_of : Ms K "of" "Kind.of" s_Kind_of (Kd.st K "of") ["entries"]
  M_entries : Ms K "entries" "Kind.entries" s_Kind_entries (He.ma K (kc K) "entries") ["self"]
  M___eq__ : Ms K "__eq__" "Kind.__eq__" s_Kind___eq (He.ma K (kc K) "__eq__") ["self", "other"]
  M___init__ : ∃ fd, Fun K "__init__" "Kind.__init__" s_Kind___init (He.ma K (kc K) "__init__") fd
  kt : ∀ n ∈ Ty7, PySem.W.kitOne K (.type n) (.ref (kc K)) = some false ∧ PySem.W.kitOne K (.ref (kc K)) (.type n) = some false ∧ PySem.W.notFirst K (kc K) (.type n) = true
  kk : PySem.W.kitOne K (.ref (kc K)) (.ref (kc K)) = some true
  ca : PySem.W.findIn K (.ref (kc K)) "__class__" = some (some (.builtin "object.__class__"))
  cn : PySem.W.specialIn K (.builtin "object.__class__") "__get__" = some (some (.builtin "getset_descriptor.__get__"))
  ct : PySem.W.takesIn K (.builtin "object.__class__") = some true
  e_InvalidEntries : ∀ P w base, Exv.Ec P w K mg base "InvalidEntries" (He.ga K "InvalidEntries") "ValueError.__new__" [.type "ValueError", .type "Exception", .type "BaseException", .type "object"] ["self", "position"] 1 (Exv.mk1 "position")
  g_InvalidEntries : mg "InvalidEntries" = some (.ref (He.ga K "InvalidEntries"))
  g_LineError : mg "LineError" = some (.ref (He.ga K "LineError"))
  no_InvalidEntries_position : PySem.W.findIn K (.ref (He.ga K "InvalidEntries")) "position" = some none
  ki_InvalidEntries : PySem.W.kitOne K (.ref (He.ga K "InvalidEntries")) (.ref (He.ga K "LineError")) = some true
  e_TooMany : ∀ P w base, Exv.Ec P w K mg base "TooMany" (He.ga K "TooMany") "ArithmeticError.__new__" [.type "ArithmeticError", .type "Exception", .type "BaseException", .type "object"] ["self", "what", "limit"] 2 (Exv.mk2 "what" "limit")
  g_TooMany : mg "TooMany" = some (.ref (He.ga K "TooMany"))
  g_LimitError : mg "LimitError" = some (.ref (He.ga K "LimitError"))
  no_TooMany_what : PySem.W.findIn K (.ref (He.ga K "TooMany")) "what" = some none
  no_TooMany_limit : PySem.W.findIn K (.ref (He.ga K "TooMany")) "limit" = some none
  ki_TooMany : PySem.W.kitOne K (.ref (He.ga K "TooMany")) (.ref (He.ga K "LimitError")) = some true
  x_ii : PySem.W.exmOne K (.ref (He.ga K "InvalidEntries")) (.ref (He.ga K "InvalidEntries")) = some true
  x_ti : PySem.W.exmOne K (.ref (He.ga K "TooMany")) (.ref (He.ga K "InvalidEntries")) = some false
  x_tt : PySem.W.exmOne K (.ref (He.ga K "TooMany")) (.ref (He.ga K "TooMany")) = some true
end K13

set_option Elab.async false
set_option linter.all false
set_option maxRecDepth 100000
namespace Sgn
open PySem PyProof.Rows
/-- the letters from a to z, as numbers -/
def abc : List Nat := (List.range 26).map (· + 97)
/-- a text's signs by the three questions -/
def signB (z : Str) : Bool := PySem.Txt.isascii z && (PySem.Txt.isalpha z && PySem.Txt.islower z)
theorem one : ∀ c, c < 128 → (Unicode.isAlpha c && !(Unicode.isUpper c || Unicode.isTitle c)) = decide (c ∈ abc) := by decide +kernel
theorem low : ∀ c, c < 128 → c ∈ abc → Unicode.isLower c = true := by decide +kernel
theorem below : ∀ c ∈ abc, c < 128 := by decide +kernel
theorem all_at {z : Str} {f : Nat → Bool} (h : z.cps.all f = true) {c : Nat} (hc : c ∈ z.cps.toList) : f c = true := by
  rw [← Array.all_toList] at h
  exact List.all_eq_true.mp h c hc
theorem signs_all {z : Str} (h : ∀ c ∈ z.cps.toList, c ∈ abc) (n : 1 ≤ z.length) : signB z = true := by
  have a1 : PySem.Txt.isascii z = true := by
    unfold PySem.Txt.isascii
    rw [← Array.all_toList, List.all_eq_true]
    exact fun c hc => decide_eq_true (below c (h c hc))
  have o := fun c (hc : c ∈ z.cps.toList) => (one c (below c (h c hc))).trans (decide_eq_true (h c hc))
  have a2 : PySem.Txt.isalpha z = true := by
    unfold PySem.Txt.isalpha
    rw [Bool.and_eq_true, ← Array.all_toList, List.all_eq_true]
    exact ⟨decide_eq_true (by omega), fun c hc => (Bool.and_eq_true _ _ ▸ o c hc : _ ∧ _).1⟩
  have a3 : PySem.Txt.islower z = true := by
    unfold PySem.Txt.islower
    rw [Bool.and_eq_true, ← Array.any_toList, ← Array.any_toList, List.any_eq_true]
    have hl : 0 < z.cps.toList.length := by rw [Array.length_toList]; exact n
    refine ⟨⟨z.cps.toList[0], List.getElem_mem hl, low _ (below _ (h _ (List.getElem_mem hl))) (h _ (List.getElem_mem hl))⟩, ?_⟩
    rw [Bool.not_eq_true', List.any_eq_false]
    intro c hc q
    have := (Bool.and_eq_true _ _ ▸ o c hc : _ ∧ _).2
    rw [q] at this
    cases this
  unfold signB
  rw [a1, a2, a3]; rfl
theorem signs_in {z : Str} (h : signB z = true) : ∀ c ∈ z.cps.toList, c ∈ abc := by
  intro c hc
  have h1 : PySem.Txt.isascii z = true := (Bool.and_eq_true _ _ ▸ h : _ ∧ _).1
  have h2 : (PySem.Txt.isalpha z && PySem.Txt.islower z) = true := (Bool.and_eq_true _ _ ▸ h : _ ∧ _).2
  have h3 : PySem.Txt.isalpha z = true := (Bool.and_eq_true _ _ ▸ h2 : _ ∧ _).1
  have h4 : PySem.Txt.islower z = true := (Bool.and_eq_true _ _ ▸ h2 : _ ∧ _).2
  have l : c < 128 := of_decide_eq_true (all_at h1 hc)
  have h5 : z.cps.all Unicode.isAlpha = true := (Bool.and_eq_true _ _ ▸ h3 : _ ∧ _).2
  have h6 : (!z.cps.any fun c => Unicode.isUpper c || Unicode.isTitle c) = true := (Bool.and_eq_true _ _ ▸ h4 : _ ∧ _).2
  have h7 : (Unicode.isUpper c || Unicode.isTitle c) = false := by
    rw [Bool.not_eq_true', ← Array.any_toList, List.any_eq_false] at h6
    exact Bool.eq_false_iff.mpr (h6 c hc)
  have := one c l
  rw [all_at h5 hc, h7] at this
  exact of_decide_eq_true this.symm
/-- the same, sign by sign -/
theorem signs_eq {z : Str} (n : 1 ≤ z.length) : signB z = ((List.range z.cps.size).map fun i => decide (z.cps.getD i 0 ∈ abc)).all id := by
  have at' : ∀ i, i < z.cps.size → z.cps.getD i 0 ∈ z.cps.toList := fun i hi => by
    rw [Array.getD_eq_getD_getElem?, Array.getElem?_eq_getElem hi]
    exact Array.getElem_mem_toList hi
  by_cases h : ∀ c ∈ z.cps.toList, c ∈ abc
  · rw [signs_all h n]
    symm
    rw [List.all_eq_true]
    intro b hb
    obtain ⟨i, hi, rfl⟩ := List.mem_map.mp hb
    exact decide_eq_true (h _ (at' i (List.mem_range.mp hi)))
  · have e : signB z = false := Bool.eq_false_iff.mpr fun q => h (signs_in q)
    rw [e]
    symm
    rw [Bool.eq_false_iff]
    intro q
    rw [List.all_eq_true] at q
    refine h fun c hc => ?_
    obtain ⟨i, hi, e⟩ := List.getElem_of_mem hc
    rw [Array.length_toList] at hi
    have := q _ (List.mem_map.mpr ⟨i, List.mem_range.mpr hi, rfl⟩)
    have := of_decide_eq_true this
    rw [Array.getD_eq_getD_getElem?, Array.getElem?_eq_getElem hi] at this
    rw [← e]
    exact this
end Sgn

set_option Elab.async false
set_option linter.all false
set_option maxRecDepth 100000
set_option maxHeartbeats 4000000
namespace K13
open PySem L2 Lay Own
local macro_rules | `(tactic| walk_at "ne") => `(tactic| first | assumption | (apply Ne.symm; assumption) | exact ne_of_none (by walk_at "look") (by assumption) | exact (ne_of_none (by walk_at "look") (by assumption)).symm)
local macro_rules | `(tactic| walk_at "look") => `(tactic| first | assumption | exact upd_same | (refine Eq.trans (upd_ne ?_) ?_; walk_at "ne"; walk_at "look"))
local macro_rules | `(tactic| walk_at "rds") => `(tactic| first | rfl | assumption | walk_at "look" | exact SqL.of (by walk_at "look") | exact SqT.of (by walk_at "look") | exact Or.inl (SqL.of (by walk_at "look")) | exact Or.inl (by assumption) | decide | omega | exact Nat.le_of_ble_eq_true rfl | exact Or.inr ⟨by decide, by decide⟩ | exact Or.inl ⟨by omega, by omega⟩ | exact ⟨by decide, by decide⟩)
local macro_rules | `(tactic| walk_at "rd1") => `(tactic| first | (apply Exists.intro) | (refine And.intro ?_ ?_; walk_at "rds") | (refine Or.inl ?_; apply Exists.intro; refine And.intro ?_ ?_; rfl))
local macro_rules | `(tactic| walk_at "rd") => `(tactic| repeat walk_at "rd1")
def letters : Str := "abcdefghijklmnopqrstuvwxyz"
def lets (z : Str) : List Bool := (List.range z.cps.size).map fun i => decide (z.cps.getD i 0 ∈ letters.cps.toList)
def nameB (z : Str) : Bool := (decide (1 ≤ (z.length : Int)) && decide ((z.length : Int) ≤ 8)) && (lets z).all id
def isI : V → Bool
  | .int _ => true
  | .bl _ => true
  | _ => false
def isB : V → Bool
  | .bl _ => true
  | _ => false
def isS : V → Bool
  | .str _ => true
  | _ => false
def dueI : V → Bool
  | .int _ => true
  | _ => false
def dB : V → Bool
  | .int i => decide (-20 ≤ i) && decide (i ≤ 20)
  | _ => false
def nB : V → Bool
  | .str z => nameB z
  | _ => false
theorem Txt.gs {K : PySem.W.Frag} {mg : Str → Option Value} (T : Txt K mg) : Exv.Gs K := ⟨T.cn, T.ct⟩
/-- the things that may be asked about -/
inductive It (K : PySem.W.Frag) (H : Hp) : V → Prop where
  | int (i : Int) : It K H (.int i)
  | str (z : Str) (h : z.length ≤ 100000) : It K H (.str z)
  | non : It K H .non
  | bl (b : Bool) : It K H (.bl b)
  | lst {a : Addr} {xs : List V} (h : H a = some (.lst xs)) : It K H (.ref a)
  | tup {a : Addr} {xs : List V} (h : H a = some (.tup xs)) : It K H (.ref a)
  | dct {a : Addr} {kvs : List (Key × V)} (h : H a = some (.dK kvs)) : It K H (.ref a)
  | own {a dx : Addr} {fs : List (Str × V)} (h : H a = some (.ins (kc K) dx fs)) : It K H (.ref a)
section
variable {K : PySem.W.Frag} {mg : Str → Option Value} {H H' : Hp} {x : V}
theorem It.same (h : It K H x) (e : L2.Same H H') : It K H' x := by
  cases h with
  | int i => exact .int i
  | str z h => exact .str z h
  | non => exact .non
  | bl b => exact .bl b
  | lst h => exact .lst (e _ _ h)
  | tup h => exact .tup (e _ _ h)
  | dct h => exact .dct (e _ _ h)
  | own h => exact .own (e _ _ h)
theorem own_ty (T : Txt K mg) {a dx : Addr} {fs : List (Str × V)} (h : H a = some (.ins (kc K) dx fs)) : TyX K H (.ref a) (.ref (kc K)) := .base (.ins h T.cls T.ca T.cn T.ct T.mo)
/-- what isinstance says of them -/
theorem It.isi (T : Txt K mg) (h : It K H x) : ∃ t, Exv.TyE K H x t ∧ PySem.W.kitOne K t (.type "int") = some (isI x) ∧ PySem.W.kitOne K t (.type "bool") = some (isB x) ∧ PySem.W.kitOne K t (.type "str") = some (isS x) := by
  cases h with
  | int i => exact ⟨_, .base (.base (.int i)), kit_ty (show kitB "int" "int" = some true from by decide +kernel), kit_ty (show kitB "int" "bool" = some false from by decide +kernel), kit_ty (show kitB "int" "str" = some false from by decide +kernel)⟩
  | str z h => exact ⟨_, .base (.base (.str z)), kit_ty (show kitB "str" "int" = some false from by decide +kernel), kit_ty (show kitB "str" "bool" = some false from by decide +kernel), kit_ty (show kitB "str" "str" = some true from by decide +kernel)⟩
  | non => exact ⟨_, .base (.base .non), kit_ty (show kitB "NoneType" "int" = some false from by decide +kernel), kit_ty (show kitB "NoneType" "bool" = some false from by decide +kernel), kit_ty (show kitB "NoneType" "str" = some false from by decide +kernel)⟩
  | bl b => exact ⟨_, .base (.base (.bl b)), kit_ty (show kitB "bool" "int" = some true from by decide +kernel), kit_ty (show kitB "bool" "bool" = some true from by decide +kernel), kit_ty (show kitB "bool" "str" = some false from by decide +kernel)⟩
  | lst h => exact ⟨_, .base (.base (.lst h)), kit_ty (show kitB "list" "int" = some false from by decide +kernel), kit_ty (show kitB "list" "bool" = some false from by decide +kernel), kit_ty (show kitB "list" "str" = some false from by decide +kernel)⟩
  | tup h => exact ⟨_, .base (.base (.tup h)), kit_ty (show kitB "tuple" "int" = some false from by decide +kernel), kit_ty (show kitB "tuple" "bool" = some false from by decide +kernel), kit_ty (show kitB "tuple" "str" = some false from by decide +kernel)⟩
  | dct h => exact ⟨_, .base (.base (.dK h)), kit_ty (show kitB "dict" "int" = some false from by decide +kernel), kit_ty (show kitB "dict" "bool" = some false from by decide +kernel), kit_ty (show kitB "dict" "str" = some false from by decide +kernel)⟩
  | own h => exact ⟨_, .base (own_ty T h), (T.kt "int" (by simp [Ty7])).2.1, (T.kt "bool" (by simp [Ty7])).2.1, (T.kt "str" (by simp [Ty7])).2.1⟩
theorem tup_isi (h : H (a : Addr) = some (.tup xs)) : ∃ t, Exv.TyE K H (.ref a) t ∧ PySem.W.kitOne K t (.type "tuple") = some true := ⟨_, .base (.base (.tup h)), kit_ty (show kitB "tuple" "tuple" = some true from by decide +kernel)⟩
/-- no tuple -/
theorem It.notT (T : Txt K mg) (h : It K H x) (n : ∀ a xs, x = .ref a → H a = some (.tup xs) → False) : ∃ t, Exv.TyE K H x t ∧ PySem.W.kitOne K t (.type "tuple") = some false := by
  cases h with
  | int i => exact ⟨_, .base (.base (.int i)), kit_ty (show kitB "int" "tuple" = some false from by decide +kernel)⟩
  | str z h => exact ⟨_, .base (.base (.str z)), kit_ty (show kitB "str" "tuple" = some false from by decide +kernel)⟩
  | non => exact ⟨_, .base (.base .non), kit_ty (show kitB "NoneType" "tuple" = some false from by decide +kernel)⟩
  | bl b => exact ⟨_, .base (.base (.bl b)), kit_ty (show kitB "bool" "tuple" = some false from by decide +kernel)⟩
  | lst h => exact ⟨_, .base (.base (.lst h)), kit_ty (show kitB "list" "tuple" = some false from by decide +kernel)⟩
  | tup h => exact (n _ _ rfl h).elim
  | dct h => exact ⟨_, .base (.base (.dK h)), kit_ty (show kitB "dict" "tuple" = some false from by decide +kernel)⟩
  | own h => exact ⟨_, .base (own_ty T h), (T.kt "tuple" (by simp [Ty7])).2.1⟩
end
section
variable {P : Program} {w : World} {K : PySem.W.Frag} {mg : Str → Option Value} {base : Heap}
def spIsI (K : PySem.W.Frag) : Sp := fun vs H Q _ => ∃ x, vs = [x] ∧ It K H x ∧ Q (.bl (dueI x)) H
def spIsN (K : PySem.W.Frag) : Sp := fun vs H Q _ => ∃ x, vs = [x] ∧ It K H x ∧ ∀ H', L2.Same H H' → Q (.bl (nB x)) H'
theorem d_is_integer (T : Txt K mg) : Df P w K mg base 1 "is_integer" ["value"] (spIsI K) := by
  refine T.S_is_integer.by sc_is_integer (fun vs H Q E h => ?_) (fun f cdv A outer s H vs Q E hr hgd h => ?_)
  · obtain ⟨x, rfl, _⟩ := h; rfl
  · obtain ⟨x, rfl, hx, k⟩ := h
    refine ⟨_, (pss_one (ps_ret (pe_and (pe_callB (Exv.call_isE T.gs) (by rfl) T.n_isinstance (by decide +kernel) (pa_cons (pv 0) (pa_cons (pe_bltn (v := .ty "int") (u := .type "int") (by rfl) T.n_int (by decide +kernel) rfl) pa_nil))) (pe_one (pe_not (pe_callB (Exv.call_isE T.gs) (by rfl) T.n_isinstance (by decide +kernel) (pa_cons (pv 0) (pa_cons (pe_bltn (v := .ty "bool") (u := .type "bool") (by rfl) T.n_bool (by decide +kernel) rfl) pa_nil)))))))), ?_⟩
    obtain ⟨t, ty, k1, k2, k3⟩ := hx.isi T
    refine ⟨_, rfl, x, .ty "int", t, .type "int", _, rfl, .ty _, ty, k1, _, rfl, ?_⟩
    refine ite2 (fun c => ?_) (fun c => ?_)
    · refine ⟨_, rfl, x, .ty "bool", t, .type "bool", _, rfl, .ty _, ty, k2, _, rfl, ?_⟩
      have e : (!isB x) = dueI x := by cases hx <;> first | rfl | cases c
      show Q (.bl (!isB x)) H
      rw [e]; exact k
    · have e : false = dueI x := by cases hx <;> first | rfl | exact absurd rfl c
      show Q (.bl false) H
      rw [e]; exact k
theorem d_is_name (T : Txt K mg) : Df P w K mg base 1 "is_name" ["value"] (spIsN K) := by
  refine T.S_is_name.by sc_is_name (fun vs H Q E h => ?_) (fun f cdv A outer s H vs Q E hr hgd h => ?_)
  · obtain ⟨x, rfl, _⟩ := h; rfl
  · obtain ⟨x, rfl, hx, k⟩ := h
    refine ⟨_, (pss_cons (ps_if (PW.pt (pw_or (pt_not (pt_val (pe_callB (Exv.call_isE T.gs) (by rfl) T.n_isinstance (by decide +kernel) (pa_cons (pv 0) (pa_cons (pe_bltn (v := .ty "str") (u := .type "str") (by rfl) T.n_str (by decide +kernel) rfl) pa_nil))))) (pw_or (pt_cmpR op_lt (pe_callB call_len_str (by rfl) T.n_len PySem.boot_len (pa_cons (pv 0) pa_nil)) pe_int (nomark _)) (pw_or1 (pt_cmpR op_gt (pe_callB call_len_str (by rfl) T.n_len PySem.boot_len (pa_cons (pv 0) pa_nil)) (pe_con1 T.c_MOST_LETTERS) (nomark _)))))) (pss_one (ps_ret pe_bl)) pss_nil)
      (pss_one (ps_ret (pe_and (pe_bm0 PySem.F.plainAttrs_str PySem.F.slot_str_isascii PySem.F.type_str_isascii mt_isascii (pv 0)) (pe_and (pe_bm0 PySem.F.plainAttrs_str PySem.F.slot_str_isalpha PySem.F.type_str_isalpha mt_isalpha (pv 0)) (pe_one (pe_bm0 PySem.F.plainAttrs_str PySem.F.slot_str_islower PySem.F.type_str_islower mt_islower (pv 0)))))))), ?_⟩
    obtain ⟨t, ty, k1, k2, k3⟩ := hx.isi T
    refine ⟨_, rfl, x, .ty "str", t, .type "str", _, rfl, .ty _, ty, k3, _, rfl, ?_⟩
    have no : isS x = false → nB x = false := fun e => by cases hx <;> first | rfl | cases e
    by_cases hs : isS x = true
    · rw [hs]
      cases hx with
      | str z h10 =>
        refine iteF ?_
        have zl : z.length ≤ sizeLine := Nat.le_trans h10 (by decide)
        refine ⟨_, rfl, z, rfl, zl, _, _, rfl, rfl, _, rfl, ?_⟩
        refine ite2 (fun c => ?_) (fun c => ?_)
        · refine iteT ?_
          have c1 := of_decide_eq_true c
          have e : nB (.str z) = false := by
            show nameB z = false
            unfold nameB
            rw [decide_eq_false (show ¬ 1 ≤ (z.length : Int) by omega)]
            rfl
          have q := k H (L2.Same.refl H)
          rw [e] at q
          exact q
        · have c1 : ¬ ((z.length : Int) < 1) := fun z => c (decide_eq_true z)
          refine ⟨_, rfl, z, rfl, zl, _, _, rfl, rfl, _, rfl, ?_⟩
          refine ite2 (fun c => ?_) (fun c => ?_)
          · have c2 := of_decide_eq_true c
            have e : nB (.str z) = false := by
              show nameB z = false
              unfold nameB
              rw [decide_eq_false (show ¬ (z.length : Int) ≤ 8 by omega), Bool.and_false]
              rfl
            have q := k H (L2.Same.refl H)
            rw [e] at q
            exact q
          · have c2 : ¬ ((8 : Int) < (z.length : Int)) := fun z => c (decide_eq_true z)
            have e : nB (.str z) = Sgn.signB z := by
              rw [Sgn.signs_eq (by omega)]
              show nameB z = _
              unfold nameB
              rw [decide_eq_true (show 1 ≤ (z.length : Int) by omega), decide_eq_true (show (z.length : Int) ≤ 8 by omega)]
              rfl
            have q := k H (L2.Same.refl H)
            rw [e] at q
            unfold Sgn.signB at q
            refine ⟨_, rfl, rfl, z, rfl, rfl, trivial, _, rfl, ?_⟩
            cases a1 : PySem.Txt.isascii z with
            | false => rw [a1] at q; exact iteF q
            | true =>
              rw [a1] at q
              refine iteT ⟨_, rfl, rfl, z, rfl, rfl, trivial, _, rfl, ?_⟩
              cases a2 : PySem.Txt.isalpha z with
              | false => rw [a2] at q; exact iteF q
              | true =>
                rw [a2] at q
                exact iteT ⟨_, rfl, rfl, z, rfl, rfl, trivial, q⟩
      | _ => cases hs
    · have hs' : isS x = false := Bool.eq_false_iff.mpr hs
      rw [hs']
      refine iteT (iteT ?_)
      have q := k H (L2.Same.refl H)
      rw [no hs'] at q
      exact q
def spDist (K : PySem.W.Frag) : Sp := fun vs H Q _ => ∃ x, vs = [x] ∧ It K H x ∧ Q (.bl (dB x)) H
theorem d_is_distance (T : Txt K mg) : Df P w K mg base 2 "is_distance" ["value"] (spDist K) := by
  have D_is_integer := d_is_integer (P := P) (w := w) (base := base) T
  refine T.S_is_distance.by sc_is_distance (fun vs H Q E h => ?_) (fun f cdv A outer s H vs Q E hr hgd h => ?_)
  · obtain ⟨x, rfl, _⟩ := h; rfl
  · obtain ⟨x, rfl, hx, k⟩ := h
    refine ⟨_, (pss_one (ps_ret (pe_and (pe_own D_is_integer (hr.mono (by first | decide | omega)) hgd (pa_cons (pv 0) pa_nil)) (pe_one (pe_chain op_le op_le (pe_un un_neg (pe_con1 T.c_FARTHEST)) (pv 0) (pe_con1 T.c_FARTHEST)))))), ?_⟩
    refine ⟨_, rfl, x, rfl, hx, _, rfl, ?_⟩
    refine ite2 (fun c => ?_) (fun c => ?_)
    · cases hx with
      | int i =>
        refine ⟨_, rfl, _, rfl, _, _, rfl, rfl, _, rfl, ?_⟩
        refine ite2 (fun c1 => ?_) (fun c1 => ?_)
        · refine ⟨_, _, rfl, rfl, ?_⟩
          have e : dB (.int i) = decide (i ≤ 20) := by
            show (decide (-20 ≤ i) && decide (i ≤ 20)) = _
            rw [c1]; rfl
          rw [e] at k; exact k
        · have e : dB (.int i) = false := by
            show (decide (-20 ≤ i) && decide (i ≤ 20)) = _
            rw [Bool.eq_false_iff.mpr c1]; rfl
          rw [e] at k; exact k
      | _ => cases c
    · have e : false = dB x := by cases hx <;> first | rfl | exact absurd rfl c
      show Q (.bl false) H
      rw [e]; exact k
end
end K13

set_option Elab.async false
set_option linter.all false
set_option maxRecDepth 100000
set_option maxHeartbeats 4000000
namespace Own
open PySem L2 Lay SrtO
theorem cut_from {xs : List V} {i : Nat} (h : i ≤ xs.length) : cutV xs (some (i : Int)) none = xs.drop i := by
  unfold cutV
  rw [HT.sIx_nat, HT.sIx_none, Nat.min_eq_left h]
  exact List.take_of_length_le (by rw [List.length_drop]; omega)
theorem cut_to {xs : List V} {i : Nat} (h : i ≤ xs.length) : cutV xs none (some (i : Int)) = xs.take i := by
  unfold cutV
  rw [HT.sIx_nat, HT.sIx_none, Nat.min_eq_left h]
  simp
section
variable {α : Type} {lt : α → α → Bool} {xs ys out : List α} {i j : Nat} {x y : α}
/-- what two sorted lists have put out -/
structure MI (lt : α → α → Bool) (xs ys : List α) (i j : Nat) (out : List α) : Prop where
  perm : out.Perm (xs.take i ++ ys.take j)
  sd : Sd lt out
  ax : ∀ z ∈ out, ∀ x ∈ xs.drop i, lt x z = false
  ay : ∀ z ∈ out, ∀ y ∈ ys.drop j, lt y z = false
theorem MI.start : MI lt xs ys 0 0 [] := ⟨by simp, List.Pairwise.nil, by simp, by simp⟩
theorem sd_drop (h : Sd lt xs) (e : xs[i]? = some x) : ∀ z ∈ xs.drop (i + 1), lt z x = false := by
  have hd : xs.drop i = x :: xs.drop (i + 1) := by
    have hi := (List.getElem?_eq_some_iff.mp e).1
    rw [List.drop_eq_getElem_cons hi]
    congr 1
    exact (List.getElem?_eq_some_iff.mp e).2
  have s : Sd lt (xs.drop i) := List.Pairwise.sublist (List.drop_sublist _ _) h
  rw [hd] at s
  exact (List.pairwise_cons.mp s).1
theorem drop_at (e : xs[i]? = some x) : xs.drop i = x :: xs.drop (i + 1) := by
  have hi := (List.getElem?_eq_some_iff.mp e).1
  rw [List.drop_eq_getElem_cons hi]
  congr 1
  exact (List.getElem?_eq_some_iff.mp e).2
theorem take_at (e : xs[i]? = some x) : xs.take (i + 1) = xs.take i ++ [x] := by rw [List.take_add_one, e]; rfl
theorem MI.b (O : Swo lt) (m : MI lt xs ys i j out) (hx : Sd lt xs) (hy : Sd lt ys) (ex : xs[i]? = some x) (ey : ys[j]? = some y) (h : lt y x = true) : MI lt xs ys i (j + 1) (out ++ [y]) := by
  have hd := drop_at ey
  refine ⟨?_, ?_, fun z hz x' hx' => ?_, fun z hz y' hy' => ?_⟩
  · rw [take_at ey, ← List.append_assoc]
    exact m.perm.append_right _
  · refine List.pairwise_append.mpr ⟨m.sd, List.pairwise_singleton _ _, fun a ha b hb => ?_⟩
    obtain rfl := List.mem_singleton.mp hb
    exact m.ay a ha b (by rw [hd]; exact List.mem_cons_self ..)
  · rcases List.mem_append.mp hz with q | q
    · exact m.ax z q x' hx'
    · obtain rfl := List.mem_singleton.mp q
      rw [drop_at ex] at hx'
      rcases List.mem_cons.mp hx' with r | r
      · subst r; exact O.asym _ _ h
      · exact O.tr z x x' (O.asym _ _ h) (sd_drop hx ex x' r)
  · rcases List.mem_append.mp hz with q | q
    · exact m.ay z q y' (by rw [hd]; exact List.mem_cons_of_mem _ hy')
    · obtain rfl := List.mem_singleton.mp q
      exact sd_drop hy ey y' hy'
theorem MI.a (O : Swo lt) (m : MI lt xs ys i j out) (hx : Sd lt xs) (hy : Sd lt ys) (ex : xs[i]? = some x) (ey : ys[j]? = some y) (h : lt y x = false) : MI lt xs ys (i + 1) j (out ++ [x]) := by
  have hd := drop_at ex
  refine ⟨?_, ?_, fun z hz x' hx' => ?_, fun z hz y' hy' => ?_⟩
  · rw [take_at ex]
    refine (m.perm.append_right _).trans ?_
    rw [List.append_assoc, List.append_assoc]
    exact List.Perm.append_left _ List.perm_append_comm
  · refine List.pairwise_append.mpr ⟨m.sd, List.pairwise_singleton _ _, fun a ha b hb => ?_⟩
    obtain rfl := List.mem_singleton.mp hb
    exact m.ax a ha b (by rw [hd]; exact List.mem_cons_self ..)
  · rcases List.mem_append.mp hz with q | q
    · exact m.ax z q x' (by rw [hd]; exact List.mem_cons_of_mem _ hx')
    · obtain rfl := List.mem_singleton.mp q
      exact sd_drop hx ex x' hx'
  · rcases List.mem_append.mp hz with q | q
    · exact m.ay z q y' hy'
    · obtain rfl := List.mem_singleton.mp q
      rw [drop_at ey] at hy'
      rcases List.mem_cons.mp hy' with r | r
      · subst r; exact h
      · exact O.tr z y y' h (sd_drop hy ey y' r)
theorem MI.fin (m : MI lt xs ys i j out) (hx : Sd lt xs) (hy : Sd lt ys) (h : xs.length ≤ i ∨ ys.length ≤ j) : (out ++ xs.drop i ++ ys.drop j).Perm (xs ++ ys) ∧ Sd lt (out ++ xs.drop i ++ ys.drop j) := by
  constructor
  · refine ((m.perm.append_right _).append_right _).trans ?_
    have e : ((xs.take i ++ ys.take j) ++ xs.drop i) ++ ys.drop j = xs.take i ++ ((ys.take j ++ xs.drop i) ++ ys.drop j) := by simp
    rw [e]
    refine (List.Perm.append_left _ (List.perm_append_comm.append_right _)).trans ?_
    have e2 : xs.take i ++ ((xs.drop i ++ ys.take j) ++ ys.drop j) = xs ++ ys := by
      rw [List.append_assoc, ← List.append_assoc, List.take_append_drop, List.take_append_drop]
    rw [e2]
  · have s1 : Sd lt (xs.drop i) := List.Pairwise.sublist (List.drop_sublist _ _) hx
    have s2 : Sd lt (ys.drop j) := List.Pairwise.sublist (List.drop_sublist _ _) hy
    rcases h with h | h
    · rw [List.drop_of_length_le h, List.append_nil]
      exact List.pairwise_append.mpr ⟨m.sd, s2, m.ay⟩
    · rw [List.drop_of_length_le h, List.append_nil]
      exact List.pairwise_append.mpr ⟨m.sd, s1, m.ax⟩
end
end Own

set_option Elab.async false
set_option linter.all false
set_option maxRecDepth 100000
set_option maxHeartbeats 4000000
namespace K13
open PySem L2 Lay Own SrtO
local macro_rules | `(tactic| walk_at "ne") => `(tactic| first | assumption | (apply Ne.symm; assumption) | exact ne_of_none (by walk_at "look") (by assumption) | exact (ne_of_none (by walk_at "look") (by assumption)).symm)
local macro_rules | `(tactic| walk_at "look") => `(tactic| first | assumption | exact upd_same | (refine Eq.trans (upd_ne ?_) ?_; walk_at "ne"; walk_at "look"))
local macro_rules | `(tactic| walk_at "rds") => `(tactic| first | rfl | assumption | walk_at "look" | exact SqL.of (by walk_at "look") | exact SqT.of (by walk_at "look") | exact Or.inl (SqL.of (by walk_at "look")) | exact Or.inl (by assumption) | decide | omega | exact Nat.le_of_ble_eq_true rfl | exact Or.inr ⟨by decide, by decide⟩ | exact Or.inl ⟨by omega, by omega⟩ | exact ⟨by decide, by decide⟩)
local macro_rules | `(tactic| walk_at "rd1") => `(tactic| first | (apply Exists.intro) | (refine And.intro ?_ ?_; walk_at "rds") | (refine Or.inl ?_; apply Exists.intro; refine And.intro ?_ ?_; rfl))
local macro_rules | `(tactic| walk_at "rd") => `(tactic| repeat walk_at "rd1")
section
variable {P : Program} {w : World} {K : PySem.W.Frag} {mg : Str → Option Value} {base : Heap}
theorem ty_lst {K : PySem.W.Frag} {H : Hp} {l : Addr} {xs : List V} (h : H l = some (.lst xs)) : tyV K "list" (.ref l) H := .inl ⟨rfl, xs, SqL.of h⟩
/-! is_entry -/
def spEnt (K : PySem.W.Frag) : Sp := fun vs H Q _ => ∃ x, vs = [x] ∧ It K H x ∧
  (((∀ a xs, x = .ref a → H a = some (.tup xs) → xs.length ≠ 3) ∧ ∀ H', L2.Same H H' → Q (.bl false) H') ∨
   ∃ a x1 x2 x3, x = .ref a ∧ H a = some (.tup [x1, x2, x3]) ∧ It K H x1 ∧ It K H x2 ∧ It K H x3 ∧ ∀ H', L2.Same H H' → Q (.bl (dB x1 && (dB x2 && nB x3))) H')
theorem d_is_entry (T : Txt K mg) : Df P w K mg base 3 "is_entry" ["value"] (spEnt K) := by
  have D_is_distance := d_is_distance (P := P) (w := w) (base := base) T
  have D_is_name := d_is_name (P := P) (w := w) (base := base) T
  refine T.S_is_entry.by sc_is_entry (fun vs H Q E h => ?_) (fun f cdv A outer s H vs Q E hr hgd h => ?_)
  · obtain ⟨x, rfl, _⟩ := h; rfl
  · obtain ⟨x, rfl, hx, h⟩ := h
    refine ⟨_, (pss_cons (ps_if (PW.pt (pw_or (pt_not (pt_val (pe_callB (Exv.call_isE T.gs) (by rfl) T.n_isinstance (by decide +kernel) (pa_cons (pv 0) (pa_cons (pe_bltn (v := .ty "tuple") (u := .type "tuple") (by rfl) T.n_tuple (by decide +kernel) rfl) pa_nil))))) (pw_or1 (pt_cmpR op_ne (pe_callB call_len_seq (by rfl) T.n_len PySem.boot_len (pa_cons (pv 0) pa_nil)) pe_int (nomark _))))) (pss_one (ps_ret pe_bl)) pss_nil)
      (pss_cons (ps_asg (pv 0) (pg_tup rfl (pgs_cons (pg_name (i := 1) sc_is_entry.nd rfl (by first | exact Or.inl rfl | exact Or.inr rfl)) (pgs_cons (pg_name (i := 2) sc_is_entry.nd rfl (by first | exact Or.inl rfl | exact Or.inr rfl)) (pgs_cons (pg_name (i := 3) sc_is_entry.nd rfl (by first | exact Or.inl rfl | exact Or.inr rfl)) pgs_nil)))))
      (pss_one (ps_ret (pe_and (pe_own D_is_distance (hr.mono (by first | decide | omega)) hgd (pa_cons (pv 1) pa_nil)) (pe_and (pe_own D_is_distance (hr.mono (by first | decide | omega)) hgd (pa_cons (pv 2) pa_nil)) (pe_one (pe_own D_is_name (hr.mono (by first | decide | omega)) hgd (pa_cons (pv 3) pa_nil))))))))), ?_⟩
    by_cases ht : ∃ a xs, x = .ref a ∧ H a = some (.tup xs)
    · obtain ⟨a, xs, rfl, ha⟩ := ht
      obtain ⟨t, ty, kt⟩ := tup_isi (K := K) ha
      refine ⟨_, rfl, _, .ty "tuple", t, .type "tuple", _, rfl, .ty _, ty, kt, _, rfl, ?_⟩
      refine iteF ?_
      refine ⟨_, rfl, a, xs, rfl, .inr (SqT.of ha), ?_⟩
      walk_at "rd"
      rcases h with ⟨n3, k⟩ | ⟨a', x1, x2, x3, e, ha', h1, h2, h3, k⟩
      · have : (xs.length : Int) ≠ 3 := fun z => n3 a xs rfl ha (by omega)
        have e : decide (V.int (xs.length : Int) = V.int 3) = false := decide_eq_false fun z => this (V.int.inj z)
        rw [e]
        refine iteT ?_
        exact k _ (L2.Same.refl H)
      · cases e
        rw [ha] at ha'
        cases ha'
        refine iteF ?_
        refine ⟨_, rfl, a, _, rfl, SqT.of ha, rfl, ?_⟩
        walk_at "rd"
        refine ite2 (fun c => ?_) (fun c => ?_)
        · rw [c] at k
          walk_at "rd"
          refine ite2 (fun c => ?_) (fun c => ?_)
          · rw [c] at k
            walk_at "rd"
            exact fun H' s => k H' s
          · rw [Bool.eq_false_iff.mpr c] at k
            exact k H (L2.Same.refl H)
        · rw [Bool.eq_false_iff.mpr c] at k
          exact k H (L2.Same.refl H)
    · obtain ⟨t, ty, kt⟩ := hx.notT T fun a xs e ha => ht ⟨a, xs, e, ha⟩
      refine ⟨_, rfl, _, .ty "tuple", t, .type "tuple", _, rfl, .ty _, ty, kt, _, rfl, ?_⟩
      refine iteT (iteT ?_)
      rcases h with ⟨_, k⟩ | ⟨a', x1, x2, x3, e, ha', _⟩
      · exact k H (L2.Same.refl H)
      · exact (ht ⟨_, _, e, ha'⟩).elim
/-! merged -/
def LtOk (H : Hp) (lt : V → V → Bool) (xs : List V) : Prop := ∀ H', L2.Same H H' → ∀ x ∈ xs, ∀ y ∈ xs, Cm H' x y (lt x y)
def spMerged (K : PySem.W.Frag) : Sp := fun vs H Q _ => ∃ (a b : Addr) (xs ys : List V) (lt : V → V → Bool), vs = [.ref a, .ref b] ∧ SqL K H a xs ∧ SqL K H b ys ∧ Swo lt ∧ LtOk H lt (xs ++ ys) ∧ Sd lt xs ∧ Sd lt ys ∧ xs.length ≤ 64 ∧ ys.length ≤ 64 ∧
  ∀ zs p H', L2.Same H H' → H p = none → H' p = some (.lst zs) → zs.Perm (xs ++ ys) → Sd lt zs → Q (.ref p) H'
theorem d_merged (T : Txt K mg) : Df P w K mg base 1 "merged" ["one", "other"] (spMerged K) := by
  refine T.S_merged.by sc_merged (fun vs H Q E h => ?_) (fun f cdv A outer s H vs Q E hr hgd h => ?_)
  · obtain ⟨a, b, xs, ys, lt, rfl, _⟩ := h; rfl
  · obtain ⟨a, b, xs, ys, lt, rfl, ha, hb, O, ok, sx, sy, lx, ly, k⟩ := h
    refine ⟨_, (pss_cons (ps_set (i := 2) sc_merged.nd rfl (by first | exact Or.inl rfl | exact Or.inr rfl) (pe_lst pa_nil))
      (pss_cons (ps_asg2 pe_int (pg_name (i := 3) sc_merged.nd rfl (by first | exact Or.inl rfl | exact Or.inr rfl)) (pg_name (i := 4) sc_merged.nd rfl (by first | exact Or.inl rfl | exact Or.inr rfl)))
      (pss_cons (ps_while PassesOwn.never (PW.pt (pw_and (pt_cmpR op_lt (pv 3) (pe_callB call_len_seq (by rfl) T.n_len PySem.boot_len (pa_cons (pv 0) pa_nil)) (nomark _)) (pw_and1 (pt_cmpR op_lt (pv 4) (pe_callB call_len_seq (by rfl) T.n_len PySem.boot_len (pa_cons (pv 1) pa_nil)) (nomark _))))) (pss_one (ps_if (pt_cmpR (op_ltV hr.units0) (pe_ix ix_list (pv 1) (pv 4) (fun _ _ => rfl)) (pe_ix ix_list (pv 0) (pv 3) (fun _ _ => rfl)) (nomark _)) (pss_cons (ps_expr (pe_bm PySem.F.plainAttrs_list PySem.F.slot_list_append PySem.F.type_list_append mt_append (pv 2) (pa_cons (pe_ix ix_list (pv 1) (pv 4) (fun _ _ => rfl)) pa_nil)))
      (pss_one (ps_set (i := 4) sc_merged.nd rfl (by first | exact Or.inl rfl | exact Or.inr rfl) (pe_op op_add (pv 4) pe_int)))) (pss_cons (ps_expr (pe_bm PySem.F.plainAttrs_list PySem.F.slot_list_append PySem.F.type_list_append mt_append (pv 2) (pa_cons (pe_ix ix_list (pv 0) (pv 3) (fun _ _ => rfl)) pa_nil)))
      (pss_one (ps_set (i := 3) sc_merged.nd rfl (by first | exact Or.inl rfl | exact Or.inr rfl) (pe_op op_add (pv 3) pe_int)))))))
      (pss_one (ps_ret (pe_op op_cat (pe_op op_cat (pv 2) (pe_callTy call_list_of (by rfl) T.n_list (by decide +kernel) (pa_cons (pe_slice sl_list (pv 0) (po_some (pv 3)) po_none) pa_nil))) (pe_callTy call_list_of (by rfl) T.n_list (by decide +kernel) (pa_cons (pe_slice sl_list (pv 1) (po_some (pv 4)) po_none) pa_nil)))))))), ?_⟩
    walk_at "rd"
    intro o no
    refine ⟨fun m σ H' => ∃ (i j : Nat) (out : List V), σ = [some (.ref a), some (.ref b), some (.ref o), some (.int i), some (.int j)] ∧ m = (xs.length - i) + (ys.length - j) ∧ i ≤ xs.length ∧ j ≤ ys.length ∧ out.length = i + j ∧ L2.Same H H' ∧ H' o = some (.lst out) ∧ MI lt xs ys i j out,
      ⟨_, 0, 0, [], rfl, rfl, Nat.zero_le _, Nat.zero_le _, rfl, Same.new no, upd_same, .start⟩, ?_⟩
    rintro m σ H1 ⟨i, j, out, rfl, rfl, hi, hj, lo, s1, ho, mi⟩
    have fin : xs.length ≤ i ∨ ys.length ≤ j → ∀ p H', L2.Same H1 H' → H1 p = none → H' p = some (.lst (out ++ xs.drop i ++ ys.drop j)) → Q (.ref p) H' := fun c p H' s np hp => by
      obtain ⟨q1, q2⟩ := mi.fin sx sy c
      refine k _ p H' (s1.trans s) ?_ hp q1 q2
      cases e : H p with
      | none => rfl
      | some u => rw [s1 _ _ e] at np; cases np
    have ha1 := s1.seq ha
    have hb1 := s1.seq hb
    walk_at "rd"
    refine ite2 (fun c => ?_) (fun c => ?_)
    · have c1 := of_decide_eq_true c
      walk_at "rd"
      refine ite2 (fun c => ?_) (fun c => ?_)
      · have c2 := of_decide_eq_true c
        have hi' : i < xs.length := by omega
        have hj' : j < ys.length := by omega
        have ex := List.getElem?_eq_getElem hi'
        have ey := List.getElem?_eq_getElem hj'
        refine ⟨fun σ H' => ∃ (i' j' : Nat) (out' : List V), σ = [some (.ref a), some (.ref b), some (.ref o), some (.int i'), some (.int j')] ∧ (xs.length - i') + (ys.length - j') < (xs.length - i) + (ys.length - j) ∧ i' ≤ xs.length ∧ j' ≤ ys.length ∧ out'.length = i' + j' ∧ L2.Same H H' ∧ H' o = some (.lst out') ∧ MI lt xs ys i' j' out', ?_, ?_⟩
        · rintro σ' H' ⟨i', j', out', rfl, hm, q⟩
          exact ⟨_, hm, i', j', out', rfl, rfl, q⟩
        have mx : xs[i] ∈ xs ++ ys := List.mem_append_left _ (List.getElem_mem hi')
        have my : ys[j] ∈ xs ++ ys := List.mem_append_right _ (List.getElem_mem hj')
        have cm := ok H1 s1 _ my _ mx
        refine ⟨_, rfl, _, rfl, b, ys, (j : Int), ys[j], rfl, rfl, hb1, atI_nat ey, _, rfl, _, rfl, a, xs, (i : Int), xs[i], rfl, rfl, ha1, atI_nat ex, _, cm, _, rfl, ?_⟩
        refine ite2 (fun cc => ?_) (fun cc => ?_)
        · refine ⟨_, rfl, ty_lst ho, _, rfl, _, rfl, b, ys, (j : Int), ys[j], rfl, rfl, hb1, atI_nat ey, ?_⟩
          refine ⟨o, out, _, rfl, rfl, ho, Nat.lt_of_le_of_lt (m := 128) (by omega) (by decide), ?_⟩
          refine ⟨_, rfl, _, _, rfl, rfl, ?_⟩
          refine ⟨i, j + 1, _, rfl, by omega, hi, by omega, by rw [List.length_append, lo]; rfl, Same.mut s1 no, upd_same, mi.b O sx sy ex ey cc⟩
        · refine ⟨_, rfl, ty_lst ho, _, rfl, _, rfl, a, xs, (i : Int), xs[i], rfl, rfl, ha1, atI_nat ex, ?_⟩
          refine ⟨o, out, _, rfl, rfl, ho, Nat.lt_of_le_of_lt (m := 128) (by omega) (by decide), ?_⟩
          refine ⟨_, rfl, _, _, rfl, rfl, ?_⟩
          refine ⟨i + 1, j, _, rfl, by omega, by omega, hj, by rw [List.length_append, lo]; show i + j + 1 = _; omega, Same.mut s1 no, upd_same, mi.a O sx sy ex ey (Bool.eq_false_iff.mpr cc)⟩
      · have c2 : ¬ ((j : Int) < (ys.length : Int)) := fun z => c (decide_eq_true z)
        walk_at "rd"
        intro p1 n1
        rw [cut_from hi]
        have t1 := Same.new (o := .lst (xs.drop i)) n1
        walk_at "rd"
        intro p2 n2
        have t2 := Same.new (o := .lst (xs.drop i)) n2
        refine ⟨o, p2, out, xs.drop i, rfl, rfl, t2 _ _ (t1 _ _ ho), upd_same, Nat.le_trans (m := 192) (by rw [List.length_drop]; omega) (by decide), fun p3 n3 => ?_⟩
        have t3 := Same.new (o := .lst (out ++ xs.drop i)) n3
        have hb3 := t3.seq (t2.seq (t1.seq hb1))
        walk_at "rd"
        intro p4 n4
        rw [cut_from hj]
        have t4 := Same.new (o := .lst (ys.drop j)) n4
        walk_at "rd"
        intro p5 n5
        have t5 := Same.new (o := .lst (ys.drop j)) n5
        refine ⟨p3, p5, out ++ xs.drop i, ys.drop j, rfl, rfl, t5 _ _ (t4 _ _ upd_same), upd_same, Nat.le_trans (m := 256) (by rw [List.length_append, List.length_drop, List.length_drop]; omega) (by decide), fun p6 n6 => ?_⟩
        have tt := t1.trans (t2.trans (t3.trans (t4.trans t5)))
        refine fin (.inr (by omega)) p6 _ (tt.trans (Same.new n6)) ?_ upd_same
        cases e : H1 p6 with
        | none => rfl
        | some u => rw [tt _ _ e] at n6; cases n6
    · have c1 : ¬ ((i : Int) < (xs.length : Int)) := fun z => c (decide_eq_true z)
      walk_at "rd"
      intro p1 n1
      rw [cut_from hi]
      have t1 := Same.new (o := .lst (xs.drop i)) n1
      walk_at "rd"
      intro p2 n2
      have t2 := Same.new (o := .lst (xs.drop i)) n2
      refine ⟨o, p2, out, xs.drop i, rfl, rfl, t2 _ _ (t1 _ _ ho), upd_same, Nat.le_trans (m := 192) (by rw [List.length_drop]; omega) (by decide), fun p3 n3 => ?_⟩
      have t3 := Same.new (o := .lst (out ++ xs.drop i)) n3
      have hb3 := t3.seq (t2.seq (t1.seq hb1))
      walk_at "rd"
      intro p4 n4
      rw [cut_from hj]
      have t4 := Same.new (o := .lst (ys.drop j)) n4
      walk_at "rd"
      intro p5 n5
      have t5 := Same.new (o := .lst (ys.drop j)) n5
      refine ⟨p3, p5, out ++ xs.drop i, ys.drop j, rfl, rfl, t5 _ _ (t4 _ _ upd_same), upd_same, Nat.le_trans (m := 256) (by rw [List.length_append, List.length_drop, List.length_drop]; omega) (by decide), fun p6 n6 => ?_⟩
      have tt := t1.trans (t2.trans (t3.trans (t4.trans t5)))
      refine fin (.inl (by omega)) p6 _ (tt.trans (Same.new n6)) ?_ upd_same
      cases e : H1 p6 with
      | none => rfl
      | some u => rw [tt _ _ e] at n6; cases n6
end
end K13

set_option Elab.async false
set_option linter.all false
set_option maxRecDepth 100000
set_option maxHeartbeats 4000000
namespace Own
open PySem L2 Lay
theorem pg_tupK {X : Cx} {es : List Expr} {k : Nat} {t : TGs} {n : Nat} {K : PySem.W.Frag} {pos : Pos} (hK : X.K = K) (hc : X.calm = true) (h : PGs X es t)
    (hn : (assignEach es X.env).length = n := by rfl) (hst : (assignEach es X.env).findIdx? (·.1) = none := by rfl) : PG X (.Tuple es k pos) (gTup K n t) := hK ▸ pg_tup hc h hn hst
/-- a comprehension whose elements stand on what it made, told by their places -/
theorem lc_depI {J : It} {n : Nat} {G : Hp → Prop} {Y : Nat → Hp → V → Hp → Prop} (wk : Walk J n G Y) {g : TG} {tt : TT} {te : TE} {vs : List Nat} {σ : L2.St} {H1 : Hp} {D : Addr} {Qd : Hp → Prop} (nD : H1 D = none) (hn : n < 100000)
    (hG : ∀ H, L2.Same H1 H → G H) (R : Nat → Hp → V → Prop) (rs : ∀ i H H' v, L2.Same H H' → R i H v → R i H' v) (rm : ∀ i H xs ys v, H D = some (.lst xs) → R i H v → R i (upd H D (.lst ys)) v)
    (hs : ∀ i x H H' (Kn : V → Hp → Prop) (Z : Hp → Prop), i < n → L2.Same H1 H → (∃ xs, H D = some (.lst xs)) → Y i H x H' → (∀ y H4, L2.Same H H4 → R i H4 y → Kn y H4) →
      g x (wipe σ vs) H' fun σ2 H2 => wipe σ2 vs = wipe σ vs ∧ tt σ2 H2 fun b H3 => if b = true then te σ2 H3 Kn else Z H3)
    (hd : ∀ H xs, L2.Same H1 H → H D = some (.lst xs) → xs.length = n → (∀ i y, xs[i]? = some y → R i H y) → Qd H) :
    ∃ W : Nat → Nat → Hp → Prop, (∃ m, W 0 m (upd H1 D (.lst []))) ∧ ∀ i m H, W i m H →
      (J.stop i H ∧ Qd H) ∨ (J.go i H ∧ ∃ Nx : Hp → Prop, (∀ H', Nx H' → ∃ m', m' < m ∧ W (i + 1) m' H') ∧ ∀ x H', J.yld i H x H' → g x (wipe σ vs) H' fun σ2 H2 => wipe σ2 vs = wipe σ vs ∧ tt σ2 H2 fun b H3 =>
        if b = true then te σ2 H3 fun y H4 => ∃ acc, H4 D = some (.lst acc) ∧ acc.length < sizeLine ∧ Nx (upd H4 D (.lst (acc ++ [y]))) else Nx H3) := by
  refine lc_it wk (fun i H => L2.Same H1 H ∧ ∃ xs, H D = some (.lst xs) ∧ xs.length = i ∧ ∀ j y, xs[j]? = some y → R j H y) ?_ ?_ ?_ ?_
  · exact ⟨Same.new nD, [], upd_same, rfl, fun j y e => by simp at e⟩
  · exact fun i H _ h => hG H h.1
  · intro i x H H' hi ⟨sm, xs, hD, hl, hr⟩ y
    refine hs i x H H' _ _ hi sm ⟨xs, hD⟩ y fun v H4 h4 hv => ⟨xs, h4 _ _ hD, by rw [hl]; exact Nat.lt_trans (Nat.lt_trans hi hn) (by decide), ?_⟩
    refine ⟨Same.mut (sm.trans h4) nD, xs ++ [v], upd_same, by simp [hl], fun j y e => ?_⟩
    by_cases hj : j < xs.length
    · rw [List.getElem?_append_left hj] at e
      exact rm j _ xs _ _ (h4 _ _ hD) (rs j _ _ _ h4 (hr j y e))
    · rw [List.getElem?_append_right (by omega)] at e
      have hj2 : j - xs.length = 0 := by
        cases hk : j - xs.length with
        | zero => rfl
        | succ m => rw [hk] at e; simp at e
      rw [hj2] at e
      simp at e
      subst e
      have : j = i := by omega
      subst this
      exact rm j _ xs _ _ (h4 _ _ hD) hv
  · intro H ⟨sm, xs, hD, hl, hr⟩
    exact hd H xs sm hD hl hr
theorem EntT.mut {H : Hp} {D : Addr} {xs ys : List V} {x : V} {e : Ent} (hD : H D = some (.lst xs)) (h : EntT H x e) : EntT (upd H D (.lst ys)) x e := by
  obtain ⟨t, rfl, h⟩ := h
  refine ⟨t, rfl, ?_⟩
  rw [upd_ne]
  · exact h
  · intro z
    subst z
    rw [hD] at h
    cases h
theorem EL.mut {H : Hp} {D : Addr} {xs ys zs : List V} {es : List Ent} (hD : H D = some (.lst xs)) (h : EL H zs es) : EL (upd H D (.lst ys)) zs es := by
  induction h with
  | nil => exact .nil
  | cons h _ ih => exact .cons (h.mut hD) ih
/-- a comprehension over entries that makes entries -/
theorem el_of {H : Hp} {xs : List V} {es : List Ent} {f : Ent → Ent} (hl : xs.length = es.length) (h : ∀ (i : Nat) (y : V), xs[i]? = some y → ∃ e, es[i]? = some e ∧ EntT H y (f e)) : EL H xs (es.map f) := by
  refine .of_at (by rw [List.length_map, hl]) fun i x e hx he => ?_
  obtain ⟨e', h1, h2⟩ := h i x hx
  rw [List.getElem?_map, h1] at he
  cases he
  exact h2
/-- a comprehension over entries that makes plain values -/
theorem vs_of {xs : List V} {es : List Ent} {f : Ent → V} (hl : xs.length = es.length) (h : ∀ (i : Nat) (y : V), xs[i]? = some y → ∃ e, es[i]? = some e ∧ y = f e) : xs = es.map f := by
  apply List.ext_getElem?
  intro i
  by_cases hi : i < xs.length
  · obtain ⟨e, h1, h2⟩ := h i _ (List.getElem?_eq_getElem hi)
    rw [List.getElem?_map, h1, List.getElem?_eq_getElem hi, h2]; rfl
  · rw [List.getElem?_eq_none (by omega), List.getElem?_eq_none (by simp; omega)]
theorem sd_short {α : Type} {lt : α → α → Bool} : ∀ {xs : List α}, xs.length ≤ 1 → Sd lt xs
  | [], _ => List.Pairwise.nil
  | [x], _ => List.pairwise_singleton _ _
  | _ :: _ :: l, h => by simp at h
theorem Swo.on {α β : Type} {lt : α → α → Bool} (T : Tot lt) (k : β → α) : SrtO.Swo fun x y => lt (k x) (k y) := ⟨fun x y => T.swo.asym _ _, fun x y z => T.swo.tr _ _ _⟩
end Own

set_option Elab.async false
set_option linter.all false
set_option maxRecDepth 100000
set_option maxHeartbeats 4000000
namespace K13
open PySem L2 Lay Own SrtO
local macro_rules | `(tactic| walk_at "ne") => `(tactic| first | assumption | (apply Ne.symm; assumption) | exact ne_of_none (by walk_at "look") (by assumption) | exact (ne_of_none (by walk_at "look") (by assumption)).symm)
local macro_rules | `(tactic| walk_at "look") => `(tactic| first | assumption | exact upd_same | (refine Eq.trans (upd_ne ?_) ?_; walk_at "ne"; walk_at "look"))
local macro_rules | `(tactic| walk_at "rds") => `(tactic| first | rfl | assumption | walk_at "look" | exact SqL.of (by walk_at "look") | exact SqT.of (by walk_at "look") | exact Or.inl (SqL.of (by walk_at "look")) | exact Or.inl (by assumption) | decide | omega | exact Nat.le_of_ble_eq_true rfl | exact Or.inr ⟨by decide, by decide⟩ | exact Or.inl ⟨by omega, by omega⟩ | exact ⟨by decide, by decide⟩)
local macro_rules | `(tactic| walk_at "rd1") => `(tactic| first | (apply Exists.intro) | (refine And.intro ?_ ?_; walk_at "rds") | (refine Or.inl ?_; apply Exists.intro; refine And.intro ?_ ?_; rfl))
local macro_rules | `(tactic| walk_at "rd") => `(tactic| repeat walk_at "rd1")
section
variable {P : Program} {w : World} {K : PySem.W.Frag} {mg : Str → Option Value} {base : Heap}
def spOrd (K : PySem.W.Frag) (n : Nat) : Sp := fun vs H Q _ => ∃ (a : Addr) (xs : List V) (lt : V → V → Bool), vs = [.ref a] ∧ SqL K H a xs ∧ Swo lt ∧ LtOk H lt xs ∧ xs.length ≤ 2 ^ n ∧
  ∀ zs p H', L2.Same H H' → H p = none → H' p = some (.lst zs) → zs.Perm xs → Sd lt zs → Q (.ref p) H'
theorem d_ord0 (T : Txt K mg) : Df P w K mg base 1 "in_order" ["rows"] (spOrd K 0) := by
  refine T.S_in_order.by sc_in_order (fun vs H Q E h => ?_) (fun f cdv A outer s H vs Q E hr hgd h => ?_)
  · obtain ⟨a, xs, lt, rfl, _⟩ := h; rfl
  · obtain ⟨a, xs, lt, rfl, ha, O, ok, hl, k⟩ := h
    refine ⟨_, (pss_cons (ps_if (pt_cmpR op_lt (pe_callB call_len_seq (by rfl) T.n_len PySem.boot_len (pa_cons (pv 0) pa_nil)) pe_int (nomark _)) (pss_one (ps_ret (pe_callTy call_list_of (by rfl) T.n_list (by decide +kernel) (pa_cons (pv 0) pa_nil)))) pss_nil)
      (pss_cons ps_never
      (pss_one ps_never))), ?_⟩
    have h1 : xs.length ≤ 1 := hl
    walk_at "rd"
    rw [decide_eq_true (show (xs.length : Int) < 2 by omega)]
    refine iteT ?_
    walk_at "rd"
    intro p np
    refine k xs p _ (Same.new np) np upd_same (List.Perm.refl _) (sd_short h1)
end
end K13

set_option Elab.async false
set_option linter.all false
set_option maxRecDepth 100000
set_option maxHeartbeats 4000000
namespace K13
open PySem L2 Lay Own SrtO
local macro_rules | `(tactic| walk_at "ne") => `(tactic| first | assumption | (apply Ne.symm; assumption) | exact ne_of_none (by walk_at "look") (by assumption) | exact (ne_of_none (by walk_at "look") (by assumption)).symm)
local macro_rules | `(tactic| walk_at "look") => `(tactic| first | assumption | exact upd_same | (refine Eq.trans (upd_ne ?_) ?_; walk_at "ne"; walk_at "look"))
local macro_rules | `(tactic| walk_at "rds") => `(tactic| first | rfl | assumption | walk_at "look" | exact SqL.of (by walk_at "look") | exact SqT.of (by walk_at "look") | exact Or.inl (SqL.of (by walk_at "look")) | exact Or.inl (by assumption) | decide | omega | exact Nat.le_of_ble_eq_true rfl | exact Or.inr ⟨by decide, by decide⟩ | exact Or.inl ⟨by omega, by omega⟩ | exact ⟨by decide, by decide⟩)
local macro_rules | `(tactic| walk_at "rd1") => `(tactic| first | (apply Exists.intro) | (refine And.intro ?_ ?_; walk_at "rds") | (refine Or.inl ?_; apply Exists.intro; refine And.intro ?_ ?_; rfl))
local macro_rules | `(tactic| walk_at "rd") => `(tactic| repeat walk_at "rd1")
section
variable {P : Program} {w : World} {K : PySem.W.Frag} {mg : Str → Option Value} {base : Heap}
theorem d_ordS (T : Txt K mg) (n : Nat) (hn : n < 6) (D_in_order : Df P w K mg base (n + 1) "in_order" ["rows"] (spOrd K n)) : Df P w K mg base (n + 2) "in_order" ["rows"] (spOrd K (n + 1)) := by
  have D_merged := d_merged (P := P) (w := w) (base := base) T
  refine T.S_in_order.by sc_in_order (fun vs H Q E h => ?_) (fun f cdv A outer s H vs Q E hr hgd h => ?_)
  · obtain ⟨a, xs, lt, rfl, _⟩ := h; rfl
  · obtain ⟨a, xs, lt, rfl, ha, O, ok, hl, k⟩ := h
    refine ⟨_, (pss_cons (ps_if (pt_cmpR op_lt (pe_callB call_len_seq (by rfl) T.n_len PySem.boot_len (pa_cons (pv 0) pa_nil)) pe_int (nomark _)) (pss_one (ps_ret (pe_callTy call_list_of (by rfl) T.n_list (by decide +kernel) (pa_cons (pv 0) pa_nil)))) pss_nil)
      (pss_cons (ps_set (i := 1) sc_in_order.nd rfl (by first | exact Or.inl rfl | exact Or.inr rfl) (pe_op op_fdiv (pe_callB call_len_seq (by rfl) T.n_len PySem.boot_len (pa_cons (pv 0) pa_nil)) pe_int))
      (pss_one (ps_ret (pe_own D_merged (hr.mono (by first | decide | omega)) hgd (pa_cons (pe_own D_in_order (hr.mono (by first | decide | omega)) hgd (pa_cons (pe_slice sl_list (pv 0) po_none (po_some (pv 1))) pa_nil)) (pa_cons (pe_own D_in_order (hr.mono (by first | decide | omega)) hgd (pa_cons (pe_slice sl_list (pv 0) (po_some (pv 1)) po_none) pa_nil)) pa_nil))))))), ?_⟩
    have h64 : xs.length ≤ 64 := Nat.le_trans hl (show 2 ^ (n + 1) ≤ 2 ^ 6 from Nat.pow_le_pow_right (by decide) (by omega))
    walk_at "rd"
    refine ite2 (fun c => ?_) (fun c => ?_)
    · have c1 := of_decide_eq_true c
      walk_at "rd"
      intro p np
      refine k xs p _ (Same.new np) np upd_same (List.Perm.refl _) (sd_short (by omega))
    · have c1 : ¬ ((xs.length : Int) < 2) := fun z => c (decide_eq_true z)
      have e2 : (xs.length : Int) / 2 = ((xs.length / 2 : Nat) : Int) := by omega
      have pw : 2 ^ (n + 1) = 2 * 2 ^ n := by rw [Nat.pow_succ]; omega
      walk_at "rd"
      intro p np
      rw [e2, cut_to (by omega)]
      have t1 := Same.new (o := .lst (xs.take (xs.length / 2))) np
      have okT : ∀ H2, L2.Same H H2 → ∀ ys, (∀ y ∈ ys, y ∈ xs) → LtOk H2 lt ys := fun H2 s ys hy H3 s3 x hx y hy' => ok H3 (s.trans s3) x (hy x hx) y (hy y hy')
      refine ⟨p, xs.take (xs.length / 2), lt, rfl, SqL.of upd_same, O, okT _ t1 _ (fun y h => List.mem_of_mem_take h), by rw [List.length_take]; omega, fun zs1 q1 H1 s1 n1 h1 pm1 sd1 => ?_⟩
      have t2 := t1.trans s1
      have ha1 := t2.seq ha
      walk_at "rd"
      intro p2 np2
      rw [e2, cut_from (by omega)]
      have t3 := Same.new (o := .lst (xs.drop (xs.length / 2))) np2
      refine ⟨p2, xs.drop (xs.length / 2), lt, rfl, SqL.of upd_same, O, okT _ (t2.trans t3) _ (fun y h => List.mem_of_mem_drop h), by rw [List.length_drop]; omega, fun zs2 q2 H2 s2 n2 h2 pm2 sd2 => ?_⟩
      have l1 := pm1.length_eq
      have l2 := pm2.length_eq
      rw [List.length_take] at l1
      rw [List.length_drop] at l2
      refine ⟨q1, q2, zs1, zs2, lt, rfl, SqL.of (s2 _ _ (t3 _ _ h1)), SqL.of h2, O, ?_, sd1, sd2, by omega, by omega, fun zs p3 H3 s3 n3 h3 pm sd => ?_⟩
      · refine okT _ (t2.trans (t3.trans s2)) _ fun y h => ?_
        rcases List.mem_append.mp h with h | h
        · exact List.mem_of_mem_take (pm1.mem_iff.mp h)
        · exact List.mem_of_mem_drop (pm2.mem_iff.mp h)
      · refine k zs p3 H3 (t2.trans (t3.trans (s2.trans s3))) ?_ h3 ?_ sd
        · cases e : H p3 with
          | none => rfl
          | some u => rw [t2.trans (t3.trans s2) _ _ e] at n3; cases n3
        · refine pm.trans ((pm1.append pm2).trans ?_)
          rw [List.take_append_drop]
theorem d_ord (T : Txt K mg) : ∀ n, n ≤ 6 → Df P w K mg base (n + 1) "in_order" ["rows"] (spOrd K n)
  | 0, _ => d_ord0 T
  | n + 1, h => d_ordS T n (by omega) (d_ord T n (by omega))
end
end K13

set_option Elab.async false
set_option linter.all false
set_option maxRecDepth 100000
set_option maxHeartbeats 4000000
namespace K13
open PySem L2 Lay Own SrtO
local macro_rules | `(tactic| walk_at "ne") => `(tactic| first | assumption | (apply Ne.symm; assumption) | exact ne_of_none (by walk_at "look") (by assumption) | exact (ne_of_none (by walk_at "look") (by assumption)).symm)
local macro_rules | `(tactic| walk_at "look") => `(tactic| first | assumption | exact upd_same | (refine Eq.trans (upd_ne ?_) ?_; walk_at "ne"; walk_at "look"))
local macro_rules | `(tactic| walk_at "rds") => `(tactic| first | rfl | assumption | walk_at "look" | exact SqL.of (by walk_at "look") | exact SqT.of (by walk_at "look") | exact Or.inl (SqL.of (by walk_at "look")) | exact Or.inl (by assumption) | decide | omega | exact Nat.le_of_ble_eq_true rfl | exact Or.inr ⟨by decide, by decide⟩ | exact Or.inl ⟨by omega, by omega⟩ | exact ⟨by decide, by decide⟩)
local macro_rules | `(tactic| walk_at "rd1") => `(tactic| first | (apply Exists.intro) | (refine And.intro ?_ ?_; walk_at "rds") | (refine Or.inl ?_; apply Exists.intro; refine And.intro ?_ ?_; rfl))
local macro_rules | `(tactic| walk_at "rd") => `(tactic| repeat walk_at "rd1")
section
variable {P : Program} {w : World} {K : PySem.W.Frag} {mg : Str → Option Value} {base : Heap}
theorem ix_tupK {cx : Cx} {C : PySem.W.Frag} (h : cx.K = C) : IxR cx (rIxT C) := h ▸ ix_tup
theorem un66 {k : Nat} {B : Around} (hr : Room k B) : B.units + 66 < cLine := by
  have := hr.un
  omega
/-! reach_of -/
theorem ints_of {α : Type} {g : α → Int} {es : List α} {ys : List V} (hl : ys.length = es.length) (h : ∀ (i : Nat) y, ys[i]? = some y → ∃ e, es[i]? = some e ∧ y = .int (g e)) : ys = (es.map g).map .int := by
  apply List.ext_getElem?
  intro i
  rw [List.getElem?_map, List.getElem?_map]
  cases hy : ys[i]? with
  | none =>
    have : es.length ≤ i := by rw [← hl]; exact List.getElem?_eq_none_iff.mp hy
    rw [List.getElem?_eq_none this]; rfl
  | some y =>
    obtain ⟨e, he, rfl⟩ := h i y hy
    rw [he]; rfl
def IsMax (m : Int) (ns : List Int) : Prop := m ∈ ns ∧ ∀ y ∈ ns, y ≤ m
def spReach (K : PySem.W.Frag) : Sp := fun vs H Q _ => ∃ a xs es, vs = [.ref a] ∧ H a = some (.lst xs) ∧ EL H xs es ∧ 0 < es.length ∧ es.length ≤ 64 ∧
  ∀ p m1 m2 H', L2.Same H H' → H p = none → H' p = some (.tup [.int m1, .int m2]) → IsMax m1 (es.map (·.1)) → IsMax m2 (es.map (·.2.1)) → Q (.ref p) H'
theorem d_reach_of (T : Txt K mg) : Df P w K mg base 1 "reach_of" ["entries"] (spReach K) := by
  refine T.S_reach_of.by sc_reach_of (fun vs H Q E h => ?_) (fun f cdv A outer s H vs Q E hr hgd h => ?_)
  · obtain ⟨a, xs, es, rfl, _⟩ := h; rfl
  · obtain ⟨a, xs, es, rfl, ha, el, l0, l1, k⟩ := h
    refine ⟨_, (pss_one (ps_ret (pe_tup (pa_cons (pe_callB  (cr_max rfl) (by rfl) T.n_max (by decide +kernel) (pa_cons (pe_lc (own := [("entry", 1)]) rfl sc_reach_of.nd (pi_list (pv 0)) (blkOk_by (own := [("entry", 1)]) (N := ["entries", "entry"]) (sc := defScope s_reach_of) (by decide +kernel)) (fun _ _ _ _ _ => (pg_name (i := 1) sc_reach_of.nd rfl (by first | exact Or.inl rfl | exact Or.inr rfl))) (fun _ _ _ _ _ => pts_nil) (fun _ _ _ _ _ => (pe_callTy call_int1 (by rfl) T.n_int (by decide +kernel) (pa_cons (pe_ix  (ix_tupK (C := K) rfl) (pv 1) pe_int (fun _ _ => rfl)) pa_nil)))) pa_nil)) (pa_cons (pe_callB  (cr_max rfl) (by rfl) T.n_max (by decide +kernel) (pa_cons (pe_lc (own := [("entry", 1)]) rfl sc_reach_of.nd (pi_list (pv 0)) (blkOk_by (own := [("entry", 1)]) (N := ["entries", "entry"]) (sc := defScope s_reach_of) (by decide +kernel)) (fun _ _ _ _ _ => (pg_name (i := 1) sc_reach_of.nd rfl (by first | exact Or.inl rfl | exact Or.inr rfl))) (fun _ _ _ _ _ => pts_nil) (fun _ _ _ _ _ => (pe_callTy call_int1 (by rfl) T.n_int (by decide +kernel) (pa_cons (pe_ix  (ix_tupK (C := K) rfl) (pv 1) pe_int (fun _ _ => rfl)) pa_nil)))) pa_nil)) pa_nil))))), ?_⟩
    have ln := el.len
    refine ⟨_, rfl, a, rfl, ⟨_, SqL.of ha⟩, fun D nD => ?_⟩
    refine lc_pure (walk_list (xs := xs)) nD (by omega) (fun _ sm => SqL.of (sm _ _ ha)) (fun i y => ∃ e, es[i]? = some e ∧ y = .int e.1) (fun i x H4 H5 Kn Z hi sm y q => ?_) (fun H4 ys sm hD hl hr => ?_)
    · obtain ⟨rfl, hx⟩ := y
      obtain ⟨e, he, t, rfl, ht⟩ := el.at hx
      have ht' := sm _ _ ht
      walk_at "rd"
      exact q _ _ (Same.refl _) ⟨e, he, rfl⟩
    · obtain rfl := ints_of (hl.trans ln) hr
      refine ⟨D, es.map (·.1), rfl, SqL.of hD, by rw [List.length_map]; exact l0, fun m hm hle => ?_⟩
      refine ⟨_, rfl, a, rfl, ⟨_, SqL.of (sm _ _ ha)⟩, fun D2 nD2 => ?_⟩
      refine lc_pure (walk_list (xs := xs)) nD2 (by omega) (fun _ sm2 => SqL.of (sm2 _ _ (sm _ _ ha))) (fun i y => ∃ e, es[i]? = some e ∧ y = .int e.2.1) (fun i x H5 H6 Kn Z hi sm2 y q => ?_) (fun H5 ys sm2 hD2 hl2 hr2 => ?_)
      · obtain ⟨rfl, hx⟩ := y
        obtain ⟨e, he, t, rfl, ht⟩ := el.at hx
        have ht' := sm2 _ _ (sm _ _ ht)
        walk_at "rd"
        exact q _ _ (Same.refl _) ⟨e, he, rfl⟩
      · obtain rfl := ints_of (hl2.trans ln) hr2
        refine ⟨D2, es.map (·.2.1), rfl, SqL.of hD2, by rw [List.length_map]; exact l0, fun m2 hm2 hle2 => ?_⟩
        refine ⟨by show (2 : Nat) ≤ sizeLine; decide +kernel, fun p np => ?_⟩
        exact k p m m2 _ ((sm.trans sm2).trans (Same.new np)) ((sm.trans sm2).free np) upd_same ⟨hm, hle⟩ ⟨hm2, hle2⟩
end
end K13

set_option Elab.async false
set_option linter.all false
set_option maxRecDepth 100000
set_option maxHeartbeats 4000000
namespace K13
open PySem L2 Lay Own SrtO
local macro_rules | `(tactic| walk_at "ne") => `(tactic| first | assumption | (apply Ne.symm; assumption) | exact ne_of_none (by walk_at "look") (by assumption) | exact (ne_of_none (by walk_at "look") (by assumption)).symm)
local macro_rules | `(tactic| walk_at "look") => `(tactic| first | assumption | exact upd_same | (refine Eq.trans (upd_ne ?_) ?_; walk_at "ne"; walk_at "look"))
local macro_rules | `(tactic| walk_at "rds") => `(tactic| first | rfl | assumption | walk_at "look" | exact SqL.of (by walk_at "look") | exact SqT.of (by walk_at "look") | exact Or.inl (SqL.of (by walk_at "look")) | exact Or.inl (by assumption) | decide | omega | exact Nat.le_of_ble_eq_true rfl | exact Or.inr ⟨by decide, by decide⟩ | exact Or.inl ⟨by omega, by omega⟩ | exact ⟨by decide, by decide⟩)
local macro_rules | `(tactic| walk_at "rd1") => `(tactic| first | (apply Exists.intro) | (refine And.intro ?_ ?_; walk_at "rds") | (refine Or.inl ?_; apply Exists.intro; refine And.intro ?_ ?_; rfl))
local macro_rules | `(tactic| walk_at "rd") => `(tactic| repeat walk_at "rd1")
section
variable {P : Program} {w : World} {K : PySem.W.Frag} {mg : Str → Option Value} {base : Heap}
/-! what is wished of an error -/
def ErrPos (K : PySem.W.Frag) (H : Hp) (E : XK) (p : V) : Prop := ∀ d H', L2.Same H H' → H' d = some (exd d [("position", p)]) → E (.ref (He.ga K "InvalidEntries")) (some d) H'
def ErrMany (K : PySem.W.Frag) (H : Hp) (E : XK) (z : Str) : Prop := ∀ d H', L2.Same H H' → H' d = some (exd d (Exv.mk2 "what" "limit" [.str z, .int 3])) → E (.ref (He.ga K "TooMany")) (some d) H'
theorem ErrPos.same {H H1 : Hp} {E : XK} {p : V} (h : ErrPos K H E p) (s : L2.Same H H1) : ErrPos K H1 E p := fun d H' s' e => h d H' (s.trans s') e
theorem ErrMany.same {H H1 : Hp} {E : XK} {z : Str} (h : ErrMany K H E z) (s : L2.Same H H1) : ErrMany K H1 E z := fun d H' s' e => h d H' (s.trans s') e
theorem fr_same {H H1 : Hp} (s : L2.Same H H1) : ∀ a, H1 a = none → Fr0 H a := fun a n o e => by
  rw [s _ _ e] at n
  cases n
/-! is_list -/
inductive NoL (H : Hp) : V → Prop where
  | int (i : Int) : NoL H (.int i)
  | str (z : Str) : NoL H (.str z)
  | non : NoL H .non
  | bl (b : Bool) : NoL H (.bl b)
  | dK {a : Addr} {kvs : List (Key × V)} (h : H a = some (.dK kvs)) : NoL H (.ref a)
  | dT {a : Addr} {kvs : List (List Key × V)} (h : H a = some (.dT kvs)) : NoL H (.ref a)
def spIsL (K : PySem.W.Frag) : Sp := fun vs H Q _ => ∃ x, vs = [x] ∧ ((∃ a xs, x = .ref a ∧ (H a = some (.lst xs) ∨ H a = some (.tup xs)) ∧ ∀ H', L2.Same H H' → Q (.bl true) H') ∨ (NoL H x ∧ ∀ H', L2.Same H H' → Q (.bl false) H'))
theorem d_is_list (T : Txt K mg) : Df P w K mg base 1 "is_list" ["value"] (spIsL K) := by
  refine T.S_is_list.by sc_is_list (fun vs H Q E h => ?_) (fun f cdv A outer s H vs Q E hr hgd h => ?_)
  · obtain ⟨x, rfl, _⟩ := h; rfl
  · obtain ⟨x, rfl, h⟩ := h
    refine ⟨_, (pss_one (ps_ret (pe_callB call_isiT (by rfl) T.n_isinstance (by decide +kernel) (pa_cons (pv 0) (pa_cons (pe_tup (pa_cons (pe_bltn (v := .ty "list") (u := .type "list") (by rfl) T.n_list (by decide +kernel) rfl) (pa_cons (pe_bltn (v := .ty "tuple") (u := .type "tuple") (by rfl) T.n_tuple (by decide +kernel) rfl) pa_nil))) pa_nil))))), ?_⟩
    walk_at "rd"
    intro t nt
    have s := Same.new (o := .tup [V.ty "list", V.ty "tuple"]) nt
    rcases h with ⟨a, xs, rfl, ha, k⟩ | ⟨nl, k⟩
    · rcases ha with ha | ha
      · exact ⟨.ref a, t, [.ty "list", .ty "tuple"], .type "list", [.type "list", .type "tuple"], true, rfl, upd_same, .cons (.ty _) (.cons (.ty _) .nil), .base (.lst (s _ _ ha)), by
          exact kitAny_cons (b := true) (kit_ty (show kitB "list" "list" = some true from by decide +kernel)) (fun z => by cases z) (fun _ => rfl), k _ s⟩
      · exact ⟨.ref a, t, [.ty "list", .ty "tuple"], .type "tuple", [.type "list", .type "tuple"], true, rfl, upd_same, .cons (.ty _) (.cons (.ty _) .nil), .base (.tup (s _ _ ha)), by
          exact kitAny_cons (b := false) (kit_ty (show kitB "tuple" "list" = some false from by decide +kernel)) (fun _ => kitAny_cons (b := true) (kit_ty (show kitB "tuple" "tuple" = some true from by decide +kernel)) (fun z => by cases z) (fun _ => rfl)) (fun z => by cases z), k _ s⟩
    · have two : ∀ n, kitB n "list" = some false → kitB n "tuple" = some false → PySem.W.kitAny K (.type n) [.type "list", .type "tuple"] = some false := fun n h1 h2 =>
        kitAny_cons (b := false) (kit_ty h1) (fun _ => kitAny_cons (b := false) (kit_ty h2) (fun _ => rfl) (fun z => by cases z)) (fun z => by cases z)
      cases nl with
      | int i => exact ⟨_, t, [.ty "list", .ty "tuple"], .type "int", [.type "list", .type "tuple"], false, rfl, upd_same, .cons (.ty _) (.cons (.ty _) .nil), .base (.int i), two "int" (by decide +kernel) (by decide +kernel), k _ s⟩
      | str z => exact ⟨_, t, [.ty "list", .ty "tuple"], .type "str", [.type "list", .type "tuple"], false, rfl, upd_same, .cons (.ty _) (.cons (.ty _) .nil), .base (.str z), two "str" (by decide +kernel) (by decide +kernel), k _ s⟩
      | non => exact ⟨_, t, [.ty "list", .ty "tuple"], .type "NoneType", [.type "list", .type "tuple"], false, rfl, upd_same, .cons (.ty _) (.cons (.ty _) .nil), .base .non, two "NoneType" (by decide +kernel) (by decide +kernel), k _ s⟩
      | bl b => exact ⟨_, t, [.ty "list", .ty "tuple"], .type "bool", [.type "list", .type "tuple"], false, rfl, upd_same, .cons (.ty _) (.cons (.ty _) .nil), .base (.bl b), two "bool" (by decide +kernel) (by decide +kernel), k _ s⟩
      | dK h => exact ⟨_, t, [.ty "list", .ty "tuple"], .type "dict", [.type "list", .type "tuple"], false, rfl, upd_same, .cons (.ty _) (.cons (.ty _) .nil), .base (.dK (s _ _ h)), two "dict" (by decide +kernel) (by decide +kernel), k _ s⟩
      | dT h => exact ⟨_, t, [.ty "list", .ty "tuple"], .type "dict", [.type "list", .type "tuple"], false, rfl, upd_same, .cons (.ty _) (.cons (.ty _) .nil), .base (.dT (s _ _ h)), two "dict" (by decide +kernel) (by decide +kernel), k _ s⟩
/-! check_reach -/
def spChR (K : PySem.W.Frag) : Sp := fun vs H Q E => ∃ a m1 m2, vs = [.ref a] ∧ H a = some (.tup [.int m1, .int m2]) ∧ (m1 ≤ 3 → m2 ≤ 3 → Q .non H) ∧ (3 < m1 → ErrMany K H E "across") ∧ (m1 ≤ 3 → 3 < m2 → ErrMany K H E "up")
theorem d_check_reach (T : Txt K mg) : Rx.DfX P w K mg base 3 "check_reach" ["reach"] (spChR K) := by
  obtain ⟨mc, cr, _, _, u3, c3⟩ := T.cr
  refine Rx.srcX T.S_check_reach sc_check_reach (fun vs H Q E h => ?_) (fun f cdv A outer s H vs Q E hr hgd h => ?_)
  · obtain ⟨a, m1, m2, rfl, _⟩ := h; rfl
  · obtain ⟨a, m1, m2, rfl, ha, k, k1, k2⟩ := h
    refine ⟨_, (pss_cons (ps_asg (pv 0) (pg_tup rfl (pgs_cons (pg_name (i := 1) sc_check_reach.nd rfl (by first | exact Or.inl rfl | exact Or.inr rfl)) (pgs_cons (pg_name (i := 2) sc_check_reach.nd rfl (by first | exact Or.inl rfl | exact Or.inr rfl)) pgs_nil))))
      (pss_cons (ps_if (pt_cmpR op_gt (pv 1) (ClX.pe_cval (pe_glob (v := .ref (He.ga K "Kind")) (by rfl) T.g_Kind rfl)) (nomark _)) (pss_one (ps_raise rfl Rx.takesD (Rx.pmk_mk rfl Exv.bsA (T.e_TooMany _ _ _) (by decide) (hr.mono (by first | decide | omega)) (pa_cons pe_str (pa_cons (ClX.pe_cval (pe_glob (v := .ref (He.ga K "Kind")) (by rfl) T.g_Kind rfl)) pa_nil))))) pss_nil)
      (pss_one (ps_if (pt_cmpR op_gt (pv 2) (ClX.pe_cval (pe_glob (v := .ref (He.ga K "Kind")) (by rfl) T.g_Kind rfl)) (nomark _)) (pss_one (ps_raise rfl Rx.takesD (Rx.pmk_mk rfl Exv.bsA (T.e_TooMany _ _ _) (by decide) (hr.mono (by first | decide | omega)) (pa_cons pe_str (pa_cons (ClX.pe_cval (pe_glob (v := .ref (He.ga K "Kind")) (by rfl) T.g_Kind rfl)) pa_nil))))) pss_nil)))), ?_⟩
    refine ⟨_, rfl, a, _, rfl, SqT.of ha, rfl, ?_⟩
    walk_at "rd"
    refine ite2 (fun c => ?_) (fun c => ?_)
    · have c1 := of_decide_eq_true c
      walk_at "rd"
      exact ⟨fun a n => fr_same (Same.refl H) a n, fun d H2 s2 e => k1 c1 d H2 s2 e⟩
    have c1 : m1 ≤ 3 := by
      have z1 : ¬ (3 < m1) := fun z => c (decide_eq_true z)
      omega
    walk_at "rd"
    refine ite2 (fun c => ?_) (fun c => ?_)
    · have c2 := of_decide_eq_true c
      walk_at "rd"
      exact ⟨fun a n => fr_same (Same.refl H) a n, fun d H2 s2 e => k2 c1 c2 d H2 s2 e⟩
    exact k c1 (by
      have z2 : ¬ (3 < m2) := fun z => c (decide_eq_true z)
      omega)
/-! check_entries -/
def EOk (e : Ent) : Prop := (-20 ≤ e.1 ∧ e.1 ≤ 20) ∧ (-20 ≤ e.2.1 ∧ e.2.1 ≤ 20) ∧ nameB e.2.2 = true ∧ e.2.2.length ≤ 1000 ∧ NmOk e
structure EsOk (es : List Ent) : Prop where
  l0 : 2 ≤ es.length
  l1 : es.length ≤ 6
  nd : es.Nodup
  ok : ∀ e ∈ es, EOk e
/-- no entry -/
def NotE (K : PySem.W.Frag) (H : Hp) (x : V) : Prop := It K H x ∧ ((∀ a ys, x = .ref a → H a = some (.tup ys) → ys.length ≠ 3) ∨
  ∃ a x1 x2 x3, x = .ref a ∧ H a = some (.tup [x1, x2, x3]) ∧ It K H x1 ∧ It K H x2 ∧ It K H x3 ∧ (dB x1 && (dB x2 && nB x3)) = false)
theorem NotE.same {H H' : Hp} {x : V} (h : NotE K H x) (s : L2.Same H H') : NotE K H' x := by
  obtain ⟨i, h⟩ := h
  refine ⟨i.same s, ?_⟩
  rcases h with h | ⟨a, x1, x2, x3, e, ha, i1, i2, i3, q⟩
  · refine .inl fun a ys e ha' => ?_
    subst e
    cases i with
    | lst z => rw [s _ _ z] at ha'; cases ha'
    | tup z =>
      rw [s _ _ z] at ha'
      cases ha'
      exact h a _ rfl z
    | dct z => rw [s _ _ z] at ha'; cases ha'
    | own z => rw [s _ _ z] at ha'; cases ha'
  · exact .inr ⟨a, x1, x2, x3, e, s _ _ ha, i1.same s, i2.same s, i3.same s, q⟩
/-- no entry, or one that stands ahead -/
def BadAt (K : PySem.W.Frag) (H : Hp) (x : V) (es : List Ent) : Prop := NotE K H x ∨ ∃ e, EntT H x e ∧ EOk e ∧ e ∈ es
theorem BadAt.same {H H' : Hp} {x : V} {es : List Ent} (h : BadAt K H x es) (s : L2.Same H H') : BadAt K H' x es := by
  rcases h with h | ⟨e, h, r⟩
  · exact .inl (h.same s)
  · exact .inr ⟨e, h.same s, r⟩
def spChk (K : PySem.W.Frag) : Sp := fun vs H Q E => ∃ a xs, vs = [.ref a] ∧ H a = some (.tup xs) ∧ xs.length ≤ 1000 ∧
  (((xs.length < 2 ∨ 6 < xs.length) ∧ ErrPos K H E .non) ∨
   (∃ es i x, 2 ≤ xs.length ∧ xs.length ≤ 6 ∧ EL H (xs.take i) es ∧ (∀ e ∈ es, EOk e) ∧ es.Nodup ∧ xs[i]? = some x ∧ BadAt K H x es ∧ ErrPos K H E (.int i)) ∨
   ∃ es, EL H xs es ∧ EsOk es ∧ ∀ H', L2.Same H H' → Q .non H')
theorem EOk.dB {e : Ent} (h : EOk e) : (dB (.int e.1) && (dB (.int e.2.1) && nB (.str e.2.2))) = true := by
  obtain ⟨⟨b1, b2⟩, ⟨b3, b4⟩, nm, nl, no⟩ := h
  show ((decide (-20 ≤ e.1) && decide (e.1 ≤ 20)) && ((decide (-20 ≤ e.2.1) && decide (e.2.1 ≤ 20)) && nameB e.2.2)) = true
  rw [decide_eq_true b1, decide_eq_true b2, decide_eq_true b3, decide_eq_true b4, nm]; rfl
theorem mem_take_nd {es : List Ent} {i : Nat} {e : Ent} (nd : es.Nodup) (he : es[i]? = some e) : ¬ e ∈ es.take i := fun hm => by
  obtain ⟨j, hj⟩ := List.mem_iff_getElem?.mp hm
  have hj' : j < i := by
    have := (List.getElem?_eq_some_iff.mp hj).1
    rw [List.length_take] at this
    omega
  rw [List.getElem?_take_of_lt hj'] at hj
  have := (List.getElem?_inj (List.getElem?_eq_some_iff.mp hj).1 nd).mp (hj.trans he.symm)
  omega
theorem d_check_entries (T : Txt K mg) : Rx.DfX P w K mg base 4 "check_entries" ["entries"] (spChk K) := by
  obtain ⟨mc, cr, _, ⟨u2, c2⟩, _⟩ := T.cr
  have D_is_entry := d_is_entry (P := P) (w := w) (base := base) T
  refine Rx.srcX T.S_check_entries sc_check_entries (fun vs H Q E h => ?_) (fun f cdv A outer s H vs Q E hr hgd h => ?_)
  · obtain ⟨a, xs, rfl, _⟩ := h; rfl
  · obtain ⟨a, xs, rfl, ha, lx, h⟩ := h
    refine ⟨_, (pss_cons (ps_if (PW.pt (pw_or (pt_cmpR op_lt (pe_callB call_len_seq (by rfl) T.n_len PySem.boot_len (pa_cons (pv 0) pa_nil)) (pe_con1 T.c_FEWEST_ENTRIES) (nomark _)) (pw_or1 (pt_cmpR op_gt (pe_callB call_len_seq (by rfl) T.n_len PySem.boot_len (pa_cons (pv 0) pa_nil)) (ClX.pe_cval (pe_glob (v := .ref (He.ga K "Kind")) (by rfl) T.g_Kind rfl)) (nomark _))))) (pss_one (ps_raise rfl Rx.takesD (Rx.pmk_mk rfl Exv.bsV (T.e_InvalidEntries _ _ _) (by decide) (hr.mono (by first | decide | omega)) (pa_cons pe_non pa_nil)))) pss_nil)
      (pss_one (ps_for Rx.leaveD rfl  (pi_enumT (by rfl) T.n_enumerate (pa_cons (pv 0) pa_nil)) (pg_tup rfl (pgs_cons (pg_name (i := 1) sc_check_entries.nd rfl (by first | exact Or.inl rfl | exact Or.inr rfl)) (pgs_cons (pg_name (i := 2) sc_check_entries.nd rfl (by first | exact Or.inl rfl | exact Or.inr rfl)) pgs_nil))) (pss_one (ps_if (PW.pt (pw_or (pt_not (pt_val (pe_own D_is_entry (hr.mono (by first | decide | omega)) hgd (pa_cons (pv 2) pa_nil)))) (pw_or1 (pt_cmpR  (op_inT (un66 hr)) (pv 2) (pe_slice sl_tup (pv 0) po_none (po_some (pv 1))) (by rfl))))) (pss_one (ps_raise rfl Rx.takesD (Rx.pmk_mk rfl Exv.bsV (T.e_InvalidEntries _ _ _) (by decide) (hr.mono (by first | decide | omega)) (pa_cons (pv 1) pa_nil)))) pss_nil))))), ?_⟩
    have fewR : ErrPos K H E .non → ∀ a, H a = none → Fr0 H a := fun _ => fr_same (Same.refl H)
    refine ⟨_, rfl, a, xs, rfl, .inr (SqT.of ha), ?_⟩
    walk_at "rd"
    by_cases c1 : (xs.length : Int) < 2
    · rw [decide_eq_true c1]
      refine iteT ?_
      have k : ErrPos K H E .non := by
        rcases h with ⟨_, k⟩ | ⟨es, i, x, l0, _⟩ | ⟨es, el, ok, _⟩
        · exact k
        · omega
        · have := ok.l0
          rw [← el.len] at this
          omega
      walk_at "rd"
      exact ⟨fun a n => fr_same (Same.refl H) a n, fun d H2 s2 e => k d H2 s2 e⟩
    rw [decide_eq_false c1]
    refine iteF ?_
    refine ⟨_, rfl, a, xs, rfl, .inr (SqT.of ha), ?_⟩
    walk_at "rd"
    by_cases c2 : (6 : Int) < (xs.length : Int)
    · rw [decide_eq_true c2]
      refine iteT ?_
      have k : ErrPos K H E .non := by
        rcases h with ⟨_, k⟩ | ⟨es, i, x, _, l1, _⟩ | ⟨es, el, ok, _⟩
        · exact k
        · omega
        · have := ok.l1
          rw [← el.len] at this
          omega
      walk_at "rd"
      exact ⟨fun a n => fr_same (Same.refl H) a n, fun d H2 s2 e => k d H2 s2 e⟩
    rw [decide_eq_false c2]
    refine iteF ?_
    have h2 : ∃ es n, n ≤ xs.length ∧ EL H (xs.take n) es ∧ (∀ e ∈ es, EOk e) ∧ es.Nodup ∧ ((∃ x, xs[n]? = some x ∧ BadAt K H x es ∧ ErrPos K H E (.int n)) ∨ n = xs.length ∧ ∀ H', L2.Same H H' → Q .non H') := by
      rcases h with ⟨l, _⟩ | ⟨es, i, x, l0, l1, el, ok, nd, hx, b, k⟩ | ⟨es, el, ok, k⟩
      · omega
      · exact ⟨es, i, Nat.le_of_lt (List.getElem?_eq_some_iff.mp hx).1, el, ok, nd, .inl ⟨x, hx, b, k⟩⟩
      · exact ⟨es, xs.length, Nat.le_refl _, by rw [List.take_length]; exact el, ok.ok, ok.nd, .inr ⟨rfl, k⟩⟩
    obtain ⟨es, n, nl, el, ok, nd, h3⟩ := h2
    have ln : es.length = n := by rw [← el.len, List.length_take]; omega
    refine ⟨_, rfl, a, xs, rfl, SqT.of ha, ?_⟩
    refine for_it walk_enumT (fun i σ H' => i ≤ n ∧ ∃ p q, σ = [some (.ref a), p, q] ∧ Same H H') ⟨Nat.zero_le _, _, _, rfl, Same.refl H⟩ (fun i σ H' _ ⟨_, p, q, e, s⟩ => SqT.of (s _ _ ha)) (fun i x σ H1 H2 hi ⟨hin, p, q, e, s⟩ y => ?_) (fun σ H' ⟨hin, p, q, e, s⟩ => ?_)
    · subst e
      obtain ⟨t, x1, y1, rfl, nT, rfl, e1, e2⟩ := y
      cases e1
      have e2 : xs[i]? = some y1 := e2
      have s2 := Same.new (o := .tup [V.int (i : Int), y1]) nT
      refine ⟨t, _, rfl, SqT.of upd_same, rfl, ?_⟩
      walk_at "rd"
      have s3 := s.trans s2
      by_cases lt : i < n
      · have e2' : (xs.take n)[i]? = some y1 := by rw [List.getElem?_take_of_lt lt]; exact e2
        obtain ⟨e, he, t2, rfl, ht2⟩ := el.at e2'
        have ht2' := s3 _ _ ht2
        have eo := ok e (List.mem_of_getElem? he)
        have nl2 := eo.2.2.2.1
        refine ⟨.tup ht2', .inr ⟨t2, _, _, _, rfl, ht2', .int _, .int _, .str _ (by omega), fun H3 s4 => ?_⟩⟩
        rw [eo.dB]
        refine ⟨_, rfl, ?_⟩
        refine iteF ?_
        have s5 := s3.trans s4
        have sq : SqT K H3 a xs := SqT.of (s5 _ _ ha)
        walk_at "rd"
        refine ⟨?_, fun p2 n2 => ?_⟩
        · rw [HT.sIx_nat]
          intro z
          have := z.2
          omega
        rw [cut_to (by omega)]
        have s6 := Same.new (o := .tup (xs.take i)) n2
        have d1 : EntT H (.ref t2) e := ⟨t2, rfl, ht2⟩
        have nmT : ∀ f ∈ es.take i, NmOk f := fun f hf => (ok f (List.mem_of_mem_take hf)).2.2.2.2
        have el2 : EL H (xs.take i) (es.take i) := by
          have := el.take i
          rw [List.take_take, Nat.min_eq_left (by omega)] at this
          exact this
        refine ⟨_, _, (d1.same (s5.trans s6)).dp, .tup (SqT.of upd_same) (el2.same (s5.trans s6)).dp, eD_sh eo.2.2.2.2, eDs_sh nmT, ?_⟩
        rw [any_eD, decide_eq_false (mem_take_nd nd he)]
        refine ⟨_, rfl, ?_⟩
        refine iteF ?_
        exact ⟨by omega, _, _, rfl, s5.trans s6⟩
      · have en : i = n := by omega
        subst en
        rcases h3 with ⟨x, hx, b, k⟩ | ⟨z, _⟩
        · rw [e2] at hx
          cases hx
          rcases b with b | ⟨e, ht, eo, hm⟩
          · obtain ⟨it, b⟩ := b.same s3
            have fin : ∀ H3, L2.Same (upd H1 t (.tup [V.int (i : Int), y1])) H3 → L2.Same H H3 := fun H3 s4 => s3.trans s4
            rcases b with b | ⟨a2, x1, x2, x3, rfl, ha2, i1, i2, i3, eb⟩
            · refine ⟨it, .inl ⟨fun a2 ys ea ha2 => b a2 ys ea ha2, fun H3 s4 => ?_⟩⟩
              refine ⟨_, rfl, ?_⟩
              refine iteT ?_
              walk_at "rd"
              exact ⟨(fun z => by cases z), fun a n => fr_same (fin _ s4) a n, fun d H4 s5 ed => k d H4 ((fin _ s4).trans s5) ed⟩
            · refine ⟨it, .inr ⟨a2, x1, x2, x3, rfl, ha2, i1, i2, i3, fun H3 s4 => ?_⟩⟩
              rw [eb]
              refine ⟨_, rfl, ?_⟩
              refine iteT ?_
              walk_at "rd"
              exact ⟨(fun z => by cases z), fun a n => fr_same (fin _ s4) a n, fun d H4 s5 ed => k d H4 ((fin _ s4).trans s5) ed⟩
          · obtain ⟨t2, rfl, ht2⟩ := id ht
            have ht2' := s3 _ _ ht2
            have nl2 := eo.2.2.2.1
            refine ⟨.tup ht2', .inr ⟨t2, _, _, _, rfl, ht2', .int _, .int _, .str _ (by omega), fun H3 s4 => ?_⟩⟩
            rw [eo.dB]
            refine ⟨_, rfl, ?_⟩
            refine iteF ?_
            have s5 := s3.trans s4
            have sq : SqT K H3 a xs := SqT.of (s5 _ _ ha)
            walk_at "rd"
            refine ⟨?_, fun p2 n2 => ?_⟩
            · rw [HT.sIx_nat]
              intro z
              have := z.2
              omega
            rw [cut_to (by omega)]
            have s6 := Same.new (o := .tup (xs.take i)) n2
            have nmT : ∀ f ∈ es, NmOk f := fun f hf => (ok f hf).2.2.2.2
            refine ⟨_, _, (ht.same (s5.trans s6)).dp, .tup (SqT.of upd_same) (el.same (s5.trans s6)).dp, eD_sh eo.2.2.2.2, eDs_sh nmT, ?_⟩
            rw [any_eD, decide_eq_true hm]
            refine ⟨_, rfl, ?_⟩
            refine iteT ?_
            walk_at "rd"
            exact ⟨(fun z => by cases z), fun a n => fr_same (s5.trans s6) a n, fun d H4 s7 ed => k d H4 ((s5.trans s6).trans s7) ed⟩
        · have := (List.getElem?_eq_some_iff.mp e2).1
          omega
    · rcases h3 with ⟨x, hx, _⟩ | ⟨_, k⟩
      · have := (List.getElem?_eq_some_iff.mp hx).1
        omega
      · exact k H' s
end
end K13

set_option Elab.async false
set_option linter.all false
set_option maxRecDepth 100000
set_option maxHeartbeats 4000000
namespace K13
open PySem L2 Lay Own SrtO
local macro_rules | `(tactic| walk_at "ne") => `(tactic| first | assumption | (apply Ne.symm; assumption) | exact ne_of_none (by walk_at "look") (by assumption) | exact (ne_of_none (by walk_at "look") (by assumption)).symm)
local macro_rules | `(tactic| walk_at "look") => `(tactic| first | assumption | exact upd_same | (refine Eq.trans (upd_ne ?_) ?_; walk_at "ne"; walk_at "look"))
local macro_rules | `(tactic| walk_at "rds") => `(tactic| first | rfl | assumption | walk_at "look" | exact SqL.of (by walk_at "look") | exact SqT.of (by walk_at "look") | exact Or.inl (SqL.of (by walk_at "look")) | exact Or.inl (by assumption) | decide | omega | exact Nat.le_of_ble_eq_true rfl | exact Or.inr ⟨by decide, by decide⟩ | exact Or.inl ⟨by omega, by omega⟩ | exact ⟨by decide, by decide⟩)
local macro_rules | `(tactic| walk_at "rd1") => `(tactic| first | (apply Exists.intro) | (refine And.intro ?_ ?_; walk_at "rds") | (refine Or.inl ?_; apply Exists.intro; refine And.intro ?_ ?_; rfl))
local macro_rules | `(tactic| walk_at "rd") => `(tactic| repeat walk_at "rd1")
section
variable {P : Program} {w : World} {K : PySem.W.Frag} {mg : Str → Option Value} {base : Heap}
/-! normed -/
def IsMin (m : Int) (ns : List Int) : Prop := m ∈ ns ∧ ∀ y ∈ ns, m ≤ y
/-- moved to the left and down -/
def mv (lo bo : Int) (e : Ent) : Ent := (e.1 - lo, e.2.1 - bo, e.2.2)
def Nrm (es fs : List Ent) : Prop := ∃ lo bo, IsMin lo (es.map (·.1)) ∧ IsMin bo (es.map (·.2.1)) ∧ fs.Perm (es.map (mv lo bo)) ∧ Sd entLt fs
def spNrm (K : PySem.W.Frag) : Sp := fun vs H Q _ => ∃ a xs es, vs = [.ref a] ∧ H a = some (.tup xs) ∧ EL H xs es ∧ 0 < es.length ∧ es.length ≤ 8 ∧
  ∀ p zs fs H', L2.Same H H' → H p = none → H' p = some (.lst zs) → EL H' zs fs → Nrm es fs → Q (.ref p) H'
theorem d_normed (T : Txt K mg) : Df P w K mg base 5 "normed" ["entries"] (spNrm K) := by
  have D_in_order := d_ord (P := P) (w := w) (base := base) T 3 (by decide)
  refine T.S_normed.by sc_normed (fun vs H Q E h => ?_) (fun f cdv A outer s H vs Q E hr hgd h => ?_)
  · obtain ⟨a, xs, es, rfl, _⟩ := h; rfl
  · obtain ⟨a, xs, es, rfl, ha, el, l0, l1, k⟩ := h
    refine ⟨_, (pss_cons (ps_set (i := 1) sc_normed.nd rfl (by first | exact Or.inl rfl | exact Or.inr rfl) (pe_callB  (cr_min rfl) (by rfl) T.n_min (by decide +kernel) (pa_cons (pe_lc (own := [("entry", 3)]) rfl sc_normed.nd (pi_tup (pv 0)) (blkOk_by (own := [("entry", 3)]) (N := ["entries", "low", "bottom", "entry", "across", "up", "name"]) (sc := defScope s_normed) (by decide +kernel)) (fun _ _ _ _ _ => (pg_name (i := 3) sc_normed.nd rfl (by first | exact Or.inl rfl | exact Or.inr rfl))) (fun _ _ _ _ _ => pts_nil) (fun _ _ _ _ _ => (pe_callTy call_int1 (by rfl) T.n_int (by decide +kernel) (pa_cons (pe_ix  (ix_tupK (C := K) rfl) (pv 3) pe_int (fun _ _ => rfl)) pa_nil)))) pa_nil)))
      (pss_cons (ps_set (i := 2) sc_normed.nd rfl (by first | exact Or.inl rfl | exact Or.inr rfl) (pe_callB  (cr_min rfl) (by rfl) T.n_min (by decide +kernel) (pa_cons (pe_lc (own := [("entry", 3)]) rfl sc_normed.nd (pi_tup (pv 0)) (blkOk_by (own := [("entry", 3)]) (N := ["entries", "low", "bottom", "entry", "across", "up", "name"]) (sc := defScope s_normed) (by decide +kernel)) (fun _ _ _ _ _ => (pg_name (i := 3) sc_normed.nd rfl (by first | exact Or.inl rfl | exact Or.inr rfl))) (fun _ _ _ _ _ => pts_nil) (fun _ _ _ _ _ => (pe_callTy call_int1 (by rfl) T.n_int (by decide +kernel) (pa_cons (pe_ix  (ix_tupK (C := K) rfl) (pv 3) pe_int (fun _ _ => rfl)) pa_nil)))) pa_nil)))
      (pss_one (ps_ret (pe_own D_in_order (hr.mono (by first | decide | omega)) hgd (pa_cons (pe_lc (own := [("across", 4), ("up", 5), ("name", 6)]) rfl sc_normed.nd (pi_tup (pv 0)) (blkOk_by (own := [("across", 4), ("up", 5), ("name", 6)]) (N := ["entries", "low", "bottom", "entry", "across", "up", "name"]) (sc := defScope s_normed) (by decide +kernel)) (fun _ _ _ _ _ => (pg_tupK (K := K) (n := 3) rfl rfl (pgs_cons (pg_name (i := 4) sc_normed.nd rfl (by first | exact Or.inl rfl | exact Or.inr rfl)) (pgs_cons (pg_name (i := 5) sc_normed.nd rfl (by first | exact Or.inl rfl | exact Or.inr rfl)) (pgs_cons (pg_name (i := 6) sc_normed.nd rfl (by first | exact Or.inl rfl | exact Or.inr rfl)) pgs_nil))))) (fun _ _ _ _ _ => pts_nil) (fun _ _ _ _ _ => (pe_tup (pa_cons (pe_op op_sub (pv 4) (pv 1)) (pa_cons (pe_op op_sub (pv 5) (pv 2)) (pa_cons (pv 6) pa_nil)))))) pa_nil)))))), ?_⟩
    have ln := el.len
    refine ⟨_, rfl, a, rfl, ⟨_, SqT.of ha⟩, fun D nD => ?_⟩
    refine lc_pure (walk_tup (xs := xs)) nD (by omega) (fun _ sm => SqT.of (sm _ _ ha)) (fun i y => ∃ e, es[i]? = some e ∧ y = .int e.1) (fun i x H4 H5 Kn Z hi sm y q => ?_) (fun H4 ys sm hD hl hr => ?_)
    · obtain ⟨rfl, hx⟩ := y
      obtain ⟨e, he, t, rfl, ht⟩ := el.at hx
      have ht' := sm _ _ ht
      walk_at "rd"
      exact q _ _ (Same.refl _) ⟨e, he, rfl⟩
    · obtain rfl := ints_of (hl.trans ln) hr
      refine ⟨D, es.map (·.1), rfl, SqL.of hD, by rw [List.length_map]; exact l0, fun lo hm hle => ?_⟩
      refine ⟨_, rfl, a, rfl, ⟨_, SqT.of (sm _ _ ha)⟩, fun D2 nD2 => ?_⟩
      refine lc_pure (walk_tup (xs := xs)) nD2 (by omega) (fun _ sm2 => SqT.of (sm2 _ _ (sm _ _ ha))) (fun i y => ∃ e, es[i]? = some e ∧ y = .int e.2.1) (fun i x H5 H6 Kn Z hi sm2 y q => ?_) (fun H5 ys sm2 hD2 hl2 hr2 => ?_)
      · obtain ⟨rfl, hx⟩ := y
        obtain ⟨e, he, t, rfl, ht⟩ := el.at hx
        have ht' := sm2 _ _ (sm _ _ ht)
        walk_at "rd"
        exact q _ _ (Same.refl _) ⟨e, he, rfl⟩
      · obtain rfl := ints_of (hl2.trans ln) hr2
        refine ⟨D2, es.map (·.2.1), rfl, SqL.of hD2, by rw [List.length_map]; exact l0, fun bo hm2 hle2 => ?_⟩
        have s2 := sm.trans sm2
        refine ⟨_, rfl, a, rfl, ⟨_, SqT.of (s2 _ _ ha)⟩, fun D3 nD3 => ?_⟩
        refine lc_depI (walk_tup (xs := xs)) nD3 (by omega) (fun _ sm3 => SqT.of (sm3 _ _ (s2 _ _ ha))) (fun i H v => ∃ e, es[i]? = some e ∧ EntT H v (mv lo bo e)) (fun i H H' v s ⟨e, he, h⟩ => ⟨e, he, h.same s⟩) (fun i H xs ys v hD ⟨e, he, h⟩ => ⟨e, he, h.mut hD⟩) (fun i x H6 H7 Kn Z hi sm3 _ y q => ?_) (fun H6 ys sm3 hD3 hl3 hr3 => ?_)
        · obtain ⟨rfl, hx⟩ := y
          obtain ⟨e, he, t, rfl, ht⟩ := el.at hx
          have ht' := sm3 _ _ (s2 _ _ ht)
          refine ⟨t, _, rfl, SqT.of ht', rfl, ?_⟩
          walk_at "rd"
          exact fun p np => q _ _ (Same.new np) ⟨e, he, p, rfl, upd_same⟩
        · have s3 := s2.trans sm3
          have el3 : EL H6 ys (es.map (mv lo bo)) := el_of (hl3.trans ln) hr3
          have O : Swo fun x y => entLt (entOf H6 x) (entOf H6 y) := Swo.on tot_ent _
          refine ⟨D3, ys, _, rfl, SqL.of hD3, O, fun H7 s x hx y hy => .ent ((el3.ents x hx).same s) ((el3.ents y hy).same s), by omega, fun zs p H7 s4 np hp pm sd => ?_⟩
          obtain ⟨el4, pm4⟩ := el3.perm pm
          refine k p zs _ H7 (s3.trans s4) (s3.free np) hp (el4.same s4) ⟨lo, bo, ⟨hm, hle⟩, ⟨hm2, hle2⟩, pm4, ?_⟩
          exact List.Pairwise.map _ (fun a b h => h) sd
end
end K13

set_option Elab.async false
set_option linter.all false
set_option maxRecDepth 100000
set_option maxHeartbeats 4000000
namespace K13
open PySem L2 Lay Own SrtO
local macro_rules | `(tactic| walk_at "ne") => `(tactic| first | assumption | (apply Ne.symm; assumption) | exact ne_of_none (by walk_at "look") (by assumption) | exact (ne_of_none (by walk_at "look") (by assumption)).symm)
local macro_rules | `(tactic| walk_at "look") => `(tactic| first | assumption | exact upd_same | (refine Eq.trans (upd_ne ?_) ?_; walk_at "ne"; walk_at "look"))
local macro_rules | `(tactic| walk_at "rds") => `(tactic| first | rfl | assumption | walk_at "look" | exact SqL.of (by walk_at "look") | exact SqT.of (by walk_at "look") | exact Or.inl (SqL.of (by walk_at "look")) | exact Or.inl (by assumption) | decide | omega | exact Nat.le_of_ble_eq_true rfl | exact Or.inr ⟨by decide, by decide⟩ | exact Or.inl ⟨by omega, by omega⟩ | exact ⟨by decide, by decide⟩)
local macro_rules | `(tactic| walk_at "rd1") => `(tactic| first | (apply Exists.intro) | (refine And.intro ?_ ?_; walk_at "rds") | (refine Or.inl ?_; apply Exists.intro; refine And.intro ?_ ?_; rfl))
local macro_rules | `(tactic| walk_at "rd") => `(tactic| repeat walk_at "rd1")
section
variable {P : Program} {w : World} {K : PySem.W.Frag} {mg : Str → Option Value} {base : Heap}
/-! methods, by their bodies -/
def MDf (P : Program) (w : World) (K : PySem.W.Frag) (mg : Str → Option Value) (base : Heap) (k : Nat) (g : Addr) (ps : List Str) (sp : Sp) : Prop := ∃ fd, FnG P w K mg base CX0 k g fd ps sp ∧ Binds K fd ps [] ∧ Kw1 fd ps
theorem MDf.fp {k : Nat} {g : Addr} {ps : List Str} {sp : Sp} (D : MDf P w K mg base k g ps sp) : FnP P w K mg base k g sp := by
  obtain ⟨fd, F, b, _⟩ := D
  exact .ofG F b
def MDfX (P : Program) (w : World) (K : PySem.W.Frag) (mg : Str → Option Value) (base : Heap) (k : Nat) (g : Addr) (ps : List Str) (sp : Sp) : Prop := ∃ fd, Rx.FnGX P w K mg base k g fd ps sp ∧ Binds K fd ps [] ∧ Kw1 fd ps
theorem MDfX.fp {k : Nat} {g : Addr} {ps : List Str} {sp : Sp} (D : MDfX P w K mg base k g ps sp) : Rx.FnPX P w K mg base k g sp := by
  obtain ⟨fd, F, b, _⟩ := D
  exact .ofG F b
theorem Ms.by {m qual : Str} {st : Stmt} {g : Addr} {ps N : List Str} {k : Nat} {sp : Sp} (S : Ms K m qual st g ps) (sc : FnScope N ps (defScope st)) (len : ∀ vs H Q E, sp vs H Q E → vs.length = ps.length)
    (hbody : ∀ (f : Addr) (cdv : Value) (A : Around) (outer : List Env) (s : Shared) (H : Hp) (vs : List V) (Q : VK) (E : XK),
      Room k (A.deeper (PyProof.Rows.envOfC qual (defScope st) s.heap.objs.size f cdv)) → A.guards = some [] → sp vs H Q E →
      ∃ t, PSs (cxOf CX0 P w K mg base N qual (defScope st) f cdv A outer s H E).nox (defBody st) t ∧ t { nx := fun _ H' => Q .non H', rt := Q } (L2.start N vs) H) : MDf P w K mg base (k + 1) g ps sp := by
  obtain ⟨fd, F, b⟩ := S
  exact ⟨fd, okG F sc len (hbody g), b⟩
theorem Ms.byX {m qual : Str} {st : Stmt} {g : Addr} {ps N : List Str} {k : Nat} {sp : Sp} (S : Ms K m qual st g ps) (sc : FnScope N ps (defScope st)) (len : ∀ vs H Q E, sp vs H Q E → vs.length = ps.length)
    (hbody : ∀ (f : Addr) (cdv : Value) (A : Around) (outer : List Env) (s : Shared) (H : Hp) (vs : List V) (Q : VK) (E : XK),
      Room k (A.deeper (PyProof.Rows.envOfC qual (defScope st) s.heap.objs.size f cdv)) → A.guards = some [] → sp vs H Q E →
      ∃ t, PSs (cxOf (L2.CX P w) P w K mg base N qual (defScope st) f cdv A outer s H E) (defBody st) t ∧ t { nx := fun _ H' => Q .non H', rt := Q } (L2.start N vs) H) : MDfX P w K mg base (k + 1) g ps sp := by
  obtain ⟨fd, F, b⟩ := S
  exact ⟨fd, Rx.okGX F sc len (hbody g), b⟩
/-- def f(a, .., *v) that may raise -/
theorem fnPX_star {k : Nat} {ps : List Str} {sp : Sp} {f : Addr} {name qual : Str} {params : Arguments} {body : List Stmt} {scope : Scope} {dV kV doc pm cdv ct oc : Value} {an od : Option Addr} {osl : Array (Option Value)} {N : List Str} {pv : Str}
    (lk : K.lookup f = some ⟨oc, od, .func (PySem.W.fnOf name qual params body scope dV kV doc pm an cdv ct), osl⟩) (hcd : PySem.W.codeIn K cdv qual = true) (S : FnScope N (ps ++ [pv]) scope)
    (hb : ∀ us rest : List Value, us.length = ps.length → bindArgs (PySem.W.fnOf name qual params body scope dV kV doc pm an cdv ct) ⟨us ++ rest, []⟩ = (newTuple rest >>= fun t => pure (ps.zip us ++ [(pv, t)])))
    (hbody : ∀ (A : Around) (outer : List Env) (s : Shared) (H : Hp) (vs : List V) (Q : VK) (E : XK), Room k (A.deeper (PyProof.Rows.envOfC qual scope s.heap.objs.size f cdv)) → A.guards = some [] → sp vs H Q E →
      ∃ t, PSs (cxOf (L2.CX P w) P w K mg base N qual scope f cdv A outer s H E) body t ∧ t { nx := fun _ H' => Q .non H', rt := Q } (start N vs) H) :
    Rx.FnPX P w K mg base (k + 1) f (fun vs H Q E => ∃ ws rest, vs = ws ++ rest ∧ ws.length = ps.length ∧ rest.length ≤ sizeLine ∧ ∀ p, H p = Option.none → sp (ws ++ [V.ref p]) (upd H p (.tup rest)) Q E) := by
  intro A outer s H us vs Q E hr hg e0 r hsp
  obtain ⟨ws, rest, ev, hl, hz, hq⟩ := hsp
  subst ev
  obtain ⟨u1, u2, eu, r1, r2⟩ := StX.vals_split r
  subst eu
  have hn : H s.heap.objs.size = Option.none := e0.hok.fresh (Nat.le_refl _)
  have hl1 : u1.length = ps.length := by rw [← r1.length]; exact hl
  have hl2 : u2.length ≤ sizeLine := by rw [← r2.length]; exact hz
  refine StX.run_bnd lk hcd S hr e0 (G := fun xs H2 => ∃ p, H p = Option.none ∧ xs = ws ++ [V.ref p] ∧ H2 = upd H p (.tup rest)) (fun A' Ex Q' h => ?_) fun s2 H2 xs ⟨p, hp, ex, eH⟩ hr' => ?_
  · rw [hb u1 u2 hl1]
    refine wpAny_bind (wpAny_newTuple (wpAny_pure ?_) hl2)
    have new : ObjOk P w (upd H s.heap.objs.size (.tup rest)) (s.heap.push ({ cls := .type "tuple", data := .seq u2.toArray } : Obj)) s.heap.objs.size (.tup rest) := ⟨hz, u2, r2, ⟨_, Heap.get?_push_size _ rfl, rfl, _, rfl⟩⟩
    have un := StX.un_laid (fs := frs outer) (s := s) (o := ({ cls := .type "tuple", data := .seq u2.toArray } : Obj)) (u := .tup rest) hn
    have z := h _ _ (ws ++ [V.ref s.heap.objs.size]) (u1 ++ [Value.ref s.heap.objs.size]) (StX.env0_laid e0 new) un rfl (fun e s' => StX.cxUp outer s H _ _ E e s' un (fun b o q => Heap.get?_push_of_some _ q) rfl) (r1.append (.cons rfl .nil))
      (by rw [List.length_append, List.length_append, hl] <;> rfl) ⟨_, hn, rfl, rfl⟩
    rw [List.zip_append hl1.symm] at z
    exact z
  · subst ex eH
    exact hbody A outer s2 _ _ Q E hr' hg (hq p hp)
/-! making a kind -/
def KindAt (K : PySem.W.Frag) (H : Hp) (a : Addr) (fs : List Ent) (m1 m2 : Int) : Prop := ∃ dx t r zs, H a = some (.ins (kc K) dx [("_entries", .ref t), ("_reach", .ref r)]) ∧ H dx = some (.own a) ∧ H t = some (.tup zs) ∧ EL H zs fs ∧ H r = some (.tup [.int m1, .int m2])
structure Kn (es fs : List Ent) (m1 m2 : Int) : Prop where
  n : Nrm es fs
  x : IsMax m1 (fs.map (·.1))
  y : IsMax m2 (fs.map (·.2.1))
/-- what becomes of a list of entries -/
inductive Oc where
  | ok (es : List Ent) | pos (p : V) | many (z : Str)
inductive Ls (K : PySem.W.Frag) (H : Hp) (xs : List V) : Oc → Prop where
  | few (h : xs.length < 2 ∨ 6 < xs.length) : Ls K H xs (.pos .non)
  | bad {es : List Ent} {i : Nat} {x : V} (l0 : 2 ≤ xs.length) (l1 : xs.length ≤ 6) (el : EL H (xs.take i) es) (ok : ∀ e ∈ es, EOk e) (nd : es.Nodup) (hx : xs[i]? = some x) (b : BadAt K H x es) : Ls K H xs (.pos (.int i))
  | across {es : List Ent} (el : EL H xs es) (ok : EsOk es) (h : ∀ fs m1 m2, Kn es fs m1 m2 → 3 < m1) : Ls K H xs (.many "across")
  | up {es : List Ent} (el : EL H xs es) (ok : EsOk es) (h : ∀ fs m1 m2, Kn es fs m1 m2 → m1 ≤ 3 ∧ 3 < m2) : Ls K H xs (.many "up")
  | good {es : List Ent} (el : EL H xs es) (ok : EsOk es) (h : ∀ fs m1 m2, Kn es fs m1 m2 → m1 ≤ 3 ∧ m2 ≤ 3) : Ls K H xs (.ok es)
theorem Ls.same {H H' : Hp} {xs : List V} {oc : Oc} (h : Ls K H xs oc) (s : L2.Same H H') : Ls K H' xs oc := by
  cases h with
  | few h => exact .few h
  | bad l0 l1 el ok nd hx b => exact .bad l0 l1 (el.same s) ok nd hx (b.same s)
  | across el ok h => exact .across (el.same s) ok h
  | up el ok h => exact .up (el.same s) ok h
  | good el ok h => exact .good (el.same s) ok h
def Err (K : PySem.W.Frag) (H : Hp) (E : XK) : Oc → Prop
  | .ok _ => True
  | .pos p => ErrPos K H E p
  | .many z => ErrMany K H E z
theorem Err.same {H H1 : Hp} {E : XK} {oc : Oc} (h : Err K H E oc) (s : L2.Same H H1) : Err K H1 E oc := by
  cases oc with
  | ok es => trivial
  | pos p => exact ErrPos.same h s
  | many z => exact ErrMany.same h s
def spIni (K : PySem.W.Frag) : Sp := fun vs H Q E => ∃ x dx p xs oc, vs = [.ref x, .ref p] ∧ H x = some (.ins (kc K) dx []) ∧ H dx = some (.own x) ∧ H p = some (.tup xs) ∧ xs.length ≤ 1000 ∧ Ls K H xs oc ∧ Err K H E oc ∧
  ∀ es fs m1 m2 H', oc = .ok es → (∀ b o, H b = some o → b ≠ x → H' b = some o) → KindAt K H' x fs m1 m2 → Kn es fs m1 m2 → Q .non H'
theorem d_init (T : Txt K mg) : Rx.FnPX P w K mg base 7 (He.ma K (kc K) "__init__") (fun vs H Q E => ∃ ws rest, vs = ws ++ rest ∧ ws.length = ["self"].length ∧ rest.length ≤ sizeLine ∧ ∀ p, H p = Option.none → spIni K (ws ++ [V.ref p]) (upd H p (.tup rest)) Q E) := by
  have D_check_entries := d_check_entries (P := P) (w := w) (base := base) T
  have D_normed := d_normed (P := P) (w := w) (base := base) T
  have D_reach_of := d_reach_of (P := P) (w := w) (base := base) T
  have D_check_reach := d_check_reach (P := P) (w := w) (base := base) T
  obtain ⟨fd, F⟩ := T.M___init__
  obtain ⟨oc, od, kV, doc, pm, an, cdv, ct, osl, rfl, lk, hcd⟩ := F.ex
  refine fnPX_star (ps := ["self"]) (pv := "entries") lk hcd sc_Kind___init (fun us rest hl => ?_) (fun A outer s H vs Q E hr hgd h => ?_)
  · match us, hl with
    | [u], _ =>
      cases rest with
      | nil => rfl
      | cons v r => rfl
  · obtain ⟨x, dx, p, xs, oc, rfl, hx, hdx, hp, lx, ls, er, k⟩ := h
    refine ⟨_, (pss_cons (ps_expr (Rx.pe_ownX Rx.takesD D_check_entries (hr.mono (by first | decide | omega)) hgd (pa_cons (pv 1) pa_nil)))
      (pss_cons (ps_set (i := 2) sc_Kind___init.nd rfl (by first | exact Or.inl rfl | exact Or.inr rfl) (pe_own D_normed (hr.mono (by first | decide | omega)) hgd (pa_cons (pv 1) pa_nil)))
      (pss_cons (ps_set (i := 3) sc_Kind___init.nd rfl (by first | exact Or.inl rfl | exact Or.inr rfl) (pe_own D_reach_of (hr.mono (by first | decide | omega)) hgd (pa_cons (pv 2) pa_nil)))
      (pss_cons (ps_expr (Rx.pe_ownX Rx.takesD D_check_reach (hr.mono (by first | decide | omega)) hgd (pa_cons (pv 3) pa_nil)))
      (pss_cons (ps_fld (pv 0) (pe_callTy call_tuple_of (by rfl) T.n_tuple (by decide +kernel) (pa_cons (pv 2) pa_nil)) rfl)
      (pss_one (ps_fld (pv 0) (pv 3) rfl))))))), ?_⟩
    refine ⟨_, rfl, p, xs, rfl, hp, lx, ?_⟩
    have three : ((xs.length < 2 ∨ 6 < xs.length) ∧ ErrPos K H E .non) ∨ (∃ es i x, 2 ≤ xs.length ∧ xs.length ≤ 6 ∧ EL H (xs.take i) es ∧ (∀ e ∈ es, EOk e) ∧ es.Nodup ∧ xs[i]? = some x ∧ BadAt K H x es ∧ ErrPos K H E (.int i)) ∨
        ∃ es, EL H xs es ∧ EsOk es ∧ ∀ fs m1 m2, Kn es fs m1 m2 → (m1 ≤ 3 ∧ m2 ≤ 3 ∧ oc = .ok es) ∨ (3 < m1 ∧ ErrMany K H E "across") ∨ (m1 ≤ 3 ∧ 3 < m2 ∧ ErrMany K H E "up") := by
      cases ls with
      | few h => exact .inl ⟨h, er⟩
      | bad l0 l1 el ok nd hx b => exact .inr (.inl ⟨_, _, _, l0, l1, el, ok, nd, hx, b, er⟩)
      | across el ok h => exact .inr (.inr ⟨_, el, ok, fun fs m1 m2 kn => .inr (.inl ⟨h _ _ _ kn, er⟩)⟩)
      | up el ok h => exact .inr (.inr ⟨_, el, ok, fun fs m1 m2 kn => .inr (.inr ⟨(h _ _ _ kn).1, (h _ _ _ kn).2, er⟩)⟩)
      | good el ok h => exact .inr (.inr ⟨_, el, ok, fun fs m1 m2 kn => .inl ⟨(h _ _ _ kn).1, (h _ _ _ kn).2, rfl⟩⟩)
    rcases three with h | h | ⟨es, el, ok, h3⟩
    · exact .inl h
    · exact .inr (.inl h)
    refine .inr (.inr ⟨es, el, ok, fun H1 s1 => ?_⟩)
    have ln := el.len
    have l0 := ok.l0
    have l1 := ok.l1
    refine ⟨_, rfl, p, xs, es, rfl, s1 _ _ hp, el.same s1, by omega, by omega, fun o zs fs H2 s2 n2 h2 el2 nr => ?_⟩
    have lf : fs.length = es.length := by
      obtain ⟨_, _, _, _, pm, _⟩ := nr
      rw [pm.length_eq, List.length_map]
    refine ⟨_, rfl, o, zs, fs, rfl, h2, el2, by omega, by omega, fun r m1 m2 H3 s3 n3 h3' mx my => ?_⟩
    have kn : Kn es fs m1 m2 := ⟨nr, mx, my⟩
    have s13 := s1.trans (s2.trans s3)
    refine ⟨_, rfl, r, m1, m2, rfl, h3', fun _ _ => ?_, fun a1 => ?_, fun a1 a2 => ?_⟩
    · have eo : oc = .ok es := by
        rcases h3 _ _ _ kn with ⟨_, _, z⟩ | ⟨z, _⟩ | ⟨_, z, _⟩
        · exact z
        · omega
        · omega
      refine ⟨_, rfl, o, zs, rfl, .inl ⟨SqL.of (s3 _ _ h2), fun t nt => ?_⟩⟩
      have st := Same.new (o := .tup zs) nt
      refine ⟨_, rfl, x, kc K, dx, [], rfl, st _ _ (s13 _ _ hx), T.cls, T.no_entries, by decide, ?_⟩
      refine ⟨_, rfl, _, rfl, x, kc K, dx, _, rfl, upd_same, T.cls, T.no_reach, (show (1 : Nat) < 1000 by decide), ?_⟩
      have nx : ∀ b u, H3 b = some u → b ≠ x → upd (upd (upd H3 t (.tup zs)) x (.ins (kc K) dx (putF "_entries" (.ref t) []))) x (.ins (kc K) dx (putF "_reach" (.ref r) (putF "_entries" (.ref t) []))) b = some u := fun b u hb ne => by
        rw [upd_ne ne, upd_ne ne]; exact st _ _ hb
      have ntx : t ≠ x := fun z => by
        subst z
        rw [s13 _ _ hx] at nt; cases nt
      have hx3 := s13 _ _ hx
      have nofo : ∀ b u, H3 b = some (.tup u) → b ≠ x := fun b u hb z => by
        subst z; rw [hx3] at hb; cases hb
      have ndx : dx ≠ x := fun z => by
        subst z; rw [hdx] at hx; cases hx
      refine k es fs m1 m2 _ eo (fun b u hb ne => nx _ _ (s13 _ _ hb) ne) ⟨dx, t, r, zs, upd_same, nx _ _ (s13 _ _ hdx) ndx, ?_, ?_, nx _ _ h3' (nofo _ _ h3')⟩ kn
      · rw [upd_ne ntx, upd_ne ntx]; exact upd_same
      · refine .of_at (el2.len) fun i z e hz he => ?_
        obtain ⟨e', he', q⟩ := el2.at hz
        rw [he] at he'; cases he'
        obtain ⟨tt, rfl, ht⟩ := q.same s3
        exact ⟨tt, rfl, nx _ _ ht (nofo _ _ ht)⟩
    · rcases h3 _ _ _ kn with ⟨z, _⟩ | ⟨_, z⟩ | ⟨z, _⟩
      · omega
      · exact z.same s13
      · omega
    · rcases h3 _ _ _ kn with ⟨_, z, _⟩ | ⟨z, _⟩ | ⟨_, _, z⟩
      · omega
      · omega
      · exact z.same s13
end
end K13

set_option Elab.async false
set_option linter.all false
set_option maxRecDepth 100000
set_option maxHeartbeats 4000000
namespace K13
open PySem L2 Lay Own SrtO
local macro_rules | `(tactic| walk_at "ne") => `(tactic| first | assumption | (apply Ne.symm; assumption) | exact ne_of_none (by walk_at "look") (by assumption) | exact (ne_of_none (by walk_at "look") (by assumption)).symm)
local macro_rules | `(tactic| walk_at "look") => `(tactic| first | assumption | exact upd_same | (refine Eq.trans (upd_ne ?_) ?_; walk_at "ne"; walk_at "look"))
local macro_rules | `(tactic| walk_at "rds") => `(tactic| first | rfl | assumption | walk_at "look" | exact SqL.of (by walk_at "look") | exact SqT.of (by walk_at "look") | exact Or.inl (SqL.of (by walk_at "look")) | exact Or.inl (by assumption) | decide | omega | exact Nat.le_of_ble_eq_true rfl | exact Or.inr ⟨by decide, by decide⟩ | exact Or.inl ⟨by omega, by omega⟩ | exact ⟨by decide, by decide⟩)
local macro_rules | `(tactic| walk_at "rd1") => `(tactic| first | (apply Exists.intro) | (refine And.intro ?_ ?_; walk_at "rds") | (refine Or.inl ?_; apply Exists.intro; refine And.intro ?_ ?_; rfl))
local macro_rules | `(tactic| walk_at "rd") => `(tactic| repeat walk_at "rd1")
section
variable {P : Program} {w : World} {K : PySem.W.Frag} {mg : Str → Option Value} {base : Heap}
/-! of -/
/-- what is wished of a kind that is made, or of an error -/
def Told (K : PySem.W.Frag) (H : Hp) (Q : VK) (E : XK) (oc : Oc) : Prop := Err K H E oc ∧ ∀ es x fs m1 m2 H', oc = .ok es → L2.Same H H' → H x = none → KindAt K H' x fs m1 m2 → Kn es fs m1 m2 → Q (.ref x) H'
theorem Told.same {H H1 : Hp} {Q : VK} {E : XK} {oc : Oc} (h : Told K H Q E oc) (s : L2.Same H H1) : Told K H1 Q E oc :=
  ⟨h.1.same s, fun es x fs m1 m2 H' e s' nx kd kn => h.2 es x fs m1 m2 H' e (s.trans s') (s.free nx) kd kn⟩
def spOf (K : PySem.W.Frag) : Sp := fun vs H Q E => ∃ x, vs = [x] ∧ ((NoL H x ∧ ErrPos K H E .non) ∨
  ∃ a xs oc, x = .ref a ∧ (H a = some (.lst xs) ∨ H a = some (.tup xs)) ∧ xs.length ≤ 1000 ∧ Ls K H xs oc ∧ Told K H Q E oc)
/-- a kind made of values by place -/
theorem make_told {H : Hp} {W : WX} {σ : L2.St} {Q : VK} {xs : List V} {oc : Oc} (lx : xs.length ≤ 1000) (ls : Ls K H xs oc) (td : Told K H Q (Rx.wAt W σ) oc) (x dx : Addr) (nx : H x = none) (nd : H dx = none) (ne : dx ≠ x) :
    (fun vs H Q E => ∃ ws rest, vs = ws ++ rest ∧ ws.length = [("self" : Str)].length ∧ rest.length ≤ sizeLine ∧ ∀ p, H p = Option.none → spIni K (ws ++ [V.ref p]) (upd H p (.tup rest)) Q E : Sp)
      (V.ref x :: xs) (upd (upd H dx (.own x)) x (.ins (kc K) dx [])) (fun v H2 => v = .non ∧ Q (.ref x) H2) (Rx.wAt W σ) := by
  refine ⟨[.ref x], xs, rfl, rfl, Nat.le_trans lx (by decide), fun p np => ?_⟩
  have s2 : L2.Same H (upd (upd H dx (.own x)) x (.ins (kc K) dx [])) := Same.made nx nd fun b o e _ => e
  have s3 := Same.new (o := .tup xs) np
  have s4 := s2.trans s3
  refine ⟨x, dx, p, xs, oc, rfl, s3 _ _ upd_same, s3 _ _ ?_, upd_same, lx, ls.same s4, td.1.same s4, fun es fs m1 m2 H' eo keep kd kn => ?_⟩
  · rw [upd_ne ne]; exact upd_same
  · refine ⟨rfl, td.2 es x fs m1 m2 H' eo (fun b o hb => ?_) nx kd kn⟩
    exact keep b o (s4 _ _ hb) fun z => by
      subst z
      rw [hb] at nx
      cases nx
theorem d_of (T : Txt K mg) : MDfX P w K mg base 9 (Kd.st K "of") ["entries"] (spOf K) := by
  have D_is_list := d_is_list (P := P) (w := w) (base := base) T
  refine T.M_of.byX sc_Kind_of (fun vs H Q E h => ?_) (fun f cdv A outer s H vs Q E hr hgd h => ?_)
  · obtain ⟨x, rfl, _⟩ := h; rfl
  · obtain ⟨x, rfl, h⟩ := h
    refine ⟨_, (pss_cons (ps_if (pt_not (pt_val (pe_own D_is_list (hr.mono (by first | decide | omega)) hgd (pa_cons (pv 0) pa_nil)))) (pss_one (ps_raise rfl Rx.takesD (Rx.pmk_mk rfl Exv.bsV (T.e_InvalidEntries _ _ _) (by decide) (hr.mono (by first | decide | omega)) (pa_cons pe_non pa_nil)))) pss_nil)
      (pss_one (ps_ret (Rx.pe_makeSX Rx.takesD T.maker (d_init T) (hr.mono (by decide)) hgd T.g_Kind (pv 0))))), ?_⟩
    rcases h with ⟨nl, k⟩ | ⟨a, xs, oc, rfl, ha, lx, ls, td⟩
    · refine ⟨_, rfl, x, rfl, .inr ⟨nl, fun H1 s1 => ?_⟩⟩
      refine ⟨_, rfl, ?_⟩
      refine iteT ?_
      walk_at "rd"
      exact ⟨fun a n => fr_same s1 a n, fun d H2 s2 e => k d H2 (s1.trans s2) e⟩
    · refine ⟨_, rfl, .ref a, rfl, .inl ⟨a, xs, rfl, ha, fun H1 s1 => ?_⟩⟩
      refine ⟨_, rfl, ?_⟩
      refine iteF ?_
      refine ⟨_, rfl, a, xs, rfl, ?_, fun x dx nx nd ne => ?_⟩
      · rcases ha with ha | ha
        · exact .inr (SqL.of (s1 _ _ ha))
        · exact .inl (SqT.of (s1 _ _ ha))
      exact make_told lx (ls.same s1) (td.same s1) x dx nx nd ne
/-! entries, == -/
def spKEn (K : PySem.W.Frag) : Sp := fun vs H Q _ => ∃ a fs m1 m2, vs = [.ref a] ∧ KindAt K H a fs m1 m2 ∧ ∀ p zs H', L2.Same H H' → H p = none → H' p = some (.lst zs) → EL H' zs fs → Q (.ref p) H'
theorem d_entries (T : Txt K mg) : MDf P w K mg base 1 (He.ma K (kc K) "entries") ["self"] (spKEn K) := by
  refine T.M_entries.by sc_Kind_entries (fun vs H Q E h => ?_) (fun f cdv A outer s H vs Q E hr hgd h => ?_)
  · obtain ⟨a, fs, m1, m2, rfl, _⟩ := h; rfl
  · obtain ⟨a, fs, m1, m2, rfl, ⟨dx, t, r, zs, ha, hdx, ht, el, hrr⟩, k⟩ := h
    refine ⟨_, (pss_one (ps_ret (pe_callTy call_list_of (by rfl) T.n_list (by decide +kernel) (pa_cons (pe_fld (pv 0) rfl) pa_nil)))), ?_⟩
    refine ⟨_, rfl, a, kc K, dx, _, _, rfl, ha, T.cls, T.no_entries, rfl, ?_⟩
    refine ⟨t, zs, rfl, .inr (SqT.of ht), fun p np => ?_⟩
    have s := Same.new (o := .lst zs) np
    exact k p zs _ s np upd_same (el.same s)
theorem un64 {k : Nat} {B : Around} (hr : Room k B) : B.units + 64 < cLine := by
  have := hr.un
  omega
theorem It.notK (T : Txt K mg) {H : Hp} {y : V} (h : It K H y) (n : ∀ b d fl, y = .ref b → H b ≠ some (.ins (kc K) d fl)) : ∃ t, TyX K H y t ∧ PySem.W.kitOne K t (.ref (kc K)) = some false ∧ PySem.W.notFirst K (kc K) t = true := by
  cases h with
  | int i => exact ⟨_, .base (.int i), (T.kt "int" (by simp [Ty7])).1, (T.kt "int" (by simp [Ty7])).2.2⟩
  | str z h => exact ⟨_, .base (.str z), (T.kt "str" (by simp [Ty7])).1, (T.kt "str" (by simp [Ty7])).2.2⟩
  | non => exact ⟨_, .base .non, (T.kt "NoneType" (by simp [Ty7])).1, (T.kt "NoneType" (by simp [Ty7])).2.2⟩
  | bl b => exact ⟨_, .base (.bl b), (T.kt "bool" (by simp [Ty7])).1, (T.kt "bool" (by simp [Ty7])).2.2⟩
  | lst h => exact ⟨_, .base (.lst h), (T.kt "list" (by simp [Ty7])).1, (T.kt "list" (by simp [Ty7])).2.2⟩
  | tup h => exact ⟨_, .base (.tup h), (T.kt "tuple" (by simp [Ty7])).1, (T.kt "tuple" (by simp [Ty7])).2.2⟩
  | dct h => exact ⟨_, .base (.dK h), (T.kt "dict" (by simp [Ty7])).1, (T.kt "dict" (by simp [Ty7])).2.2⟩
  | own h => exact (n _ _ _ rfl h).elim
def spEqK (K : PySem.W.Frag) : Sp := fun vs H Q _ => ∃ a fs m1 m2 y, vs = [.ref a, y] ∧ KindAt K H a fs m1 m2 ∧ (∀ e ∈ fs, EOk e) ∧
  ((∃ b gs n1 n2, y = .ref b ∧ KindAt K H b gs n1 n2 ∧ (∀ e ∈ gs, EOk e) ∧ Q (.bl (decide (fs = gs))) H) ∨
   (It K H y ∧ (∀ b d fl, y = .ref b → H b ≠ some (.ins (kc K) d fl)) ∧ Q (.bl false) H))
theorem d_eq (T : Txt K mg) : MDf P w K mg base 1 (He.ma K (kc K) "__eq__") ["self", "other"] (spEqK K) := by
  refine T.M___eq__.by sc_Kind___eq (fun vs H Q E h => ?_) (fun f cdv A outer s H vs Q E hr hgd h => ?_)
  · obtain ⟨a, fs, m1, m2, x, rfl, _⟩ := h; rfl
  · obtain ⟨a, fs, m1, m2, y, rfl, ⟨dx, t, r, zs, ha, hdx, ht, el, hrr⟩, ok, h⟩ := h
    refine ⟨_, (pss_one (ps_ret (pe_and (pe_callB (Exv.call_isE T.gs) (by rfl) T.n_isinstance (by decide +kernel) (pa_cons (pv 1) (pa_cons (pe_glob (v := .ref (He.ga K "Kind")) (by rfl) T.g_Kind rfl) pa_nil))) (pe_one (pe_cmpR (op_eqD (un64 hr)) (pe_fld (pv 0) rfl) (pe_fld (pv 1) rfl) (nomark _)))))), ?_⟩
    rcases h with ⟨b, gs, n1, n2, rfl, ⟨dx2, t2, r2, zs2, ha2, hdx2, ht2, el2, hrr2⟩, ok2, k⟩ | ⟨hy, no, k⟩
    · refine ⟨_, rfl, .ref b, .ref (kc K), .ref (kc K), .ref (kc K), true, rfl, .own _, .base (own_ty T ha2), T.kk, true, rfl, iteT ?_⟩
      refine ⟨_, rfl, a, kc K, dx, _, _, rfl, ha, T.cls, T.no_entries, rfl, _, rfl, b, kc K, dx2, _, _, rfl, ha2, T.cls, T.no_entries, rfl, .tuple (fs.map eD), .tuple (gs.map eD), .tup (SqT.of ht) el.dp, .tup (SqT.of ht2) el2.dp, eDs_sh fun f hf => (ok f hf).2.2.2.2, eDs_sh fun f hf => (ok2 f hf).2.2.2.2, ?_⟩
      rw [eqvT]
      exact k
    · obtain ⟨ty, h1, h2, _⟩ := hy.notK T no
      exact ⟨_, rfl, y, .ref (kc K), ty, .ref (kc K), false, rfl, .own _, .base h1, h2, false, rfl, iteF k⟩
end
end K13

set_option Elab.async false
set_option linter.all false
set_option maxRecDepth 100000
set_option maxHeartbeats 4000000
namespace K13
open PySem L2 Lay Own SrtO
local macro_rules | `(tactic| walk_at "ne") => `(tactic| first | assumption | (apply Ne.symm; assumption) | exact ne_of_none (by walk_at "look") (by assumption) | exact (ne_of_none (by walk_at "look") (by assumption)).symm)
local macro_rules | `(tactic| walk_at "look") => `(tactic| first | assumption | exact upd_same | (refine Eq.trans (upd_ne ?_) ?_; walk_at "ne"; walk_at "look"))
local macro_rules | `(tactic| walk_at "rds") => `(tactic| first | rfl | assumption | walk_at "look" | exact SqL.of (by walk_at "look") | exact SqT.of (by walk_at "look") | exact Or.inl (SqL.of (by walk_at "look")) | exact Or.inl (by assumption) | decide | omega | exact Nat.le_of_ble_eq_true rfl | exact Or.inr ⟨by decide, by decide⟩ | exact Or.inl ⟨by omega, by omega⟩ | exact ⟨by decide, by decide⟩)
local macro_rules | `(tactic| walk_at "rd1") => `(tactic| first | (apply Exists.intro) | (refine And.intro ?_ ?_; walk_at "rds") | (refine Or.inl ?_; apply Exists.intro; refine And.intro ?_ ?_; rfl))
local macro_rules | `(tactic| walk_at "rd") => `(tactic| repeat walk_at "rd1")
section
variable {P : Program} {w : World} {K : PySem.W.Frag} {mg : Str → Option Value} {base : Heap}
/-! texts -/
def entTxt (e : Ent) : Str := tupleText [toString e.1, toString e.2.1, reprText e.2.2]
theorem name_small {z : Str} (h : nameB z = true) : ∀ c ∈ z.cps.toList, c < 16 ^ 8 := by
  intro c hc
  obtain ⟨i, hi⟩ := List.mem_iff_getElem?.mp hc
  have h2 : (lets z).all id = true := (Bool.and_eq_true_iff.mp h).2
  have hl : i < z.cps.size := by
    have := (List.getElem?_eq_some_iff.mp hi).1
    simpa using this
  have m : decide (z.cps.getD i 0 ∈ letters.cps.toList) ∈ lets z := List.mem_map.mpr ⟨i, List.mem_range.mpr hl, rfl⟩
  have d := of_decide_eq_true (show decide (z.cps.getD i 0 ∈ letters.cps.toList) = true from List.all_eq_true.mp h2 _ m)
  have e : z.cps.getD i 0 = c := by
    rw [Array.getElem?_toList] at hi
    simp [Array.getD, hl] at *
    exact hi
  rw [e] at d
  have a : ∀ x ∈ letters.cps.toList, x < 16 ^ 8 := by decide +kernel
  exact a c d
theorem int_len {i : Int} (h1 : -100 ≤ i) (h2 : i ≤ 100) : (Str.length ((toString i : String) : Str)) ≤ 4 := by
  have h : i.natAbs < 10 ^ 3 := by show i.natAbs < 1000; omega
  have e := int_text_length_le10 (a := i) (k := 3) (by decide) h
  rw [ofString_length]
  omega
theorem entTxt_len {e : Ent} (ok : EOk e) : (entTxt e).length ≤ 10100 := by
  obtain ⟨⟨b1, b2⟩, ⟨b3, b4⟩, nm, nl, no⟩ := ok
  have h := PySem.tupleText_len_le [((toString e.1 : String) : Str), ((toString e.2.1 : String) : Str), reprText e.2.2]
  have r := PySem.StrLaws.reprText_len e.2.2 (name_small nm)
  have i1 := int_len (i := e.1) (by omega) (by omega)
  have i2 := int_len (i := e.2.1) (by omega) (by omega)
  have h' : (entTxt e).length ≤ ([(Str.length ((toString e.1 : String) : Str)), (Str.length ((toString e.2.1 : String) : Str)), (reprText e.2.2).length]).sum + 2 * 3 + 3 := h
  simp only [List.sum_cons, List.sum_nil] at h'
  omega
theorem entsTxt_len {es : List Ent} (ok : ∀ e ∈ es, EOk e) (l : es.length ≤ 100) : (tupleText (es.map entTxt)).length ≤ 1100000 := by
  have h := PySem.tupleText_len_le (es.map entTxt)
  rw [List.map_map, List.length_map] at h
  have b : ∀ fs : List Ent, (∀ e ∈ fs, EOk e) → (fs.map ((·.length) ∘ entTxt)).sum ≤ 10100 * fs.length := by
    intro fs
    induction fs with
    | nil => intro _; simp
    | cons f fs ih =>
      intro hf
      have h1 := entTxt_len (hf f (List.mem_cons_self ..))
      have h2 := ih fun e he => hf e (List.mem_cons_of_mem _ he)
      simp only [List.map_cons, List.sum_cons, List.length_cons, Function.comp_apply] at *
      omega
  have := b es ok
  omega
theorem EntT.sw {H : Hp} {x : V} {e : Ent} (h : EntT H x e) (ok : EOk e) : ∃ t, x = .ref t ∧ H t = some (.tup [.int e.1, .int e.2.1, .str e.2.2]) ∧ Rp.Sw K H [t] x (entTxt e) := by
  obtain ⟨t, rfl, ht⟩ := h
  obtain ⟨⟨b1, b2⟩, ⟨b3, b4⟩, _⟩ := ok
  have lg : ∀ i : Int, -20 ≤ i → i ≤ 20 → i.natAbs.log2 < 1920 := fun i h1 h2 => by
    have h : i.natAbs < 2 ^ 10 := by show i.natAbs < 1024; omega
    rcases Nat.eq_zero_or_pos i.natAbs with z | z
    · rw [z]; decide
    · exact Nat.lt_trans ((Nat.log2_lt (by omega)).mpr h) (by decide)
  exact ⟨t, rfl, ht, .tup ht (.cons (.int _ (lg _ b1 b2)) (.cons (.int _ (lg _ b3 b4)) (.cons (.str _) .nil))) (by simp)⟩
theorem EL.swl {H : Hp} {xs : List V} {es : List Ent} (h : EL H xs es) (ok : ∀ e ∈ es, EOk e) : ∃ as, Rp.SwL K H as xs (es.map entTxt) ∧ as.length = es.length ∧ ∀ b ∈ as, ∃ e : Ent, H b = some (.tup [.int e.1, .int e.2.1, .str e.2.2]) := by
  induction h with
  | nil => exact ⟨[], .nil, rfl, by simp⟩
  | cons h _ ih =>
    rename_i x e xs es _
    obtain ⟨as, h1, h2, h3⟩ := ih fun f hf => ok f (List.mem_cons_of_mem _ hf)
    obtain ⟨t, rfl, ht, sw⟩ := EntT.sw (K := K) h (ok e (List.mem_cons_self ..))
    refine ⟨t :: as, .cons sw h1, by rw [List.length_cons, List.length_cons, h2], fun b hb => ?_⟩
    rcases List.mem_cons.mp hb with rfl | hb
    · exact ⟨e, ht⟩
    · exact h3 b hb
/-- no tuple of entries stands among the tuples that are its entries -/
theorem EL.off {H : Hp} {p : Addr} {zs : List V} {es : List Ent} {as : List Addr} (hp : H p = some (.tup zs) ∨ H p = some (.lst zs)) (h : EL H zs es) (ha : ∀ b ∈ as, ∃ e : Ent, H b = some (.tup [.int e.1, .int e.2.1, .str e.2.2])) : p ∉ as := by
  intro hm
  obtain ⟨e, he⟩ := ha p hm
  rcases hp with hp | hp
  · rw [hp] at he
    cases he
    cases h with
    | cons h _ =>
      obtain ⟨t, z, _⟩ := h
      cases z
  · rw [hp] at he
    cases he
end
end K13

set_option Elab.async false
set_option linter.all false
set_option maxRecDepth 100000
set_option maxHeartbeats 4000000
namespace K13
open PySem L2 Lay Own SrtO
local macro_rules | `(tactic| walk_at "ne") => `(tactic| first | assumption | (apply Ne.symm; assumption) | exact ne_of_none (by walk_at "look") (by assumption) | exact (ne_of_none (by walk_at "look") (by assumption)).symm)
local macro_rules | `(tactic| walk_at "look") => `(tactic| first | assumption | exact upd_same | (refine Eq.trans (upd_ne ?_) ?_; walk_at "ne"; walk_at "look"))
local macro_rules | `(tactic| walk_at "rds") => `(tactic| first | rfl | assumption | walk_at "look" | exact SqL.of (by walk_at "look") | exact SqT.of (by walk_at "look") | exact Or.inl (SqL.of (by walk_at "look")) | exact Or.inl (by assumption) | decide | omega | exact Nat.le_of_ble_eq_true rfl | exact Or.inr ⟨by decide, by decide⟩ | exact Or.inl ⟨by omega, by omega⟩ | exact ⟨by decide, by decide⟩)
local macro_rules | `(tactic| walk_at "rd1") => `(tactic| first | (apply Exists.intro) | (refine And.intro ?_ ?_; walk_at "rds") | (refine Or.inl ?_; apply Exists.intro; refine And.intro ?_ ?_; rfl))
local macro_rules | `(tactic| walk_at "rd") => `(tactic| repeat walk_at "rd1")
section
variable {P : Program} {w : World} {K : PySem.W.Frag} {mg : Str → Option Value} {base : Heap}
theorem d_draw (T : Txt K mg) : Df P w K mg base 1 "_law_draw" ["_law_pot_here", "_law_many"] spDraw := by
  refine draw_up (T.S_l_draw.by sc_l_draw (fun vs H Q E h => ?_) (fun f cdv A outer s H vs Q E hr hgd h => ?_)) rfl
  · obtain ⟨p, m, a, b, rfl, _⟩ := h; rfl
  · obtain ⟨p, m, a, b, rfl, hp, b0, b1, m0, m1, k⟩ := h
    refine ⟨_, (pss_cons (ps_if (pt_cmpR op_gt (pe_ix ix_list (pv 0) pe_int (fun _ _ => rfl)) pe_int (nomark _)) (pss_cons (ps_asg (pe_callB call_divmodW (by rfl) T.n_divmod (by decide +kernel) (pa_cons (pe_ix ix_list (pv 0) pe_int (fun _ _ => rfl)) (pa_cons (pv 1) pa_nil))) (pg_tup rfl (pgs_cons (pg_sub (pv 0) pe_int set_list) (pgs_cons (pg_name (i := 2) sc_l_draw.nd rfl (by first | exact Or.inl rfl | exact Or.inr rfl)) pgs_nil))))
      (pss_one (ps_ret (pv 2)))) pss_nil)
      (pss_cons (ps_asg (pe_op op_mod (pe_callTy call_int1 (by rfl) T.n_int (by decide +kernel) (pa_cons (pe_op op_add (pe_op op_mul (pe_ix ix_list (pv 0) pe_int (fun _ _ => rfl)) pe_int) pe_int) pa_nil)) pe_int) (pg_sub (pv 0) pe_int set_list))
      (pss_one (ps_ret (pe_op op_mod (pe_callTy call_int1 (by rfl) T.n_int (by decide +kernel) (pa_cons (pe_op op_fdiv (pe_op op_mod (pe_callTy call_int1 (by rfl) T.n_int (by decide +kernel) (pa_cons (pe_op op_mul (pe_ix ix_list (pv 0) pe_int (fun _ _ => rfl)) (pe_ix ix_list (pv 0) pe_int (fun _ _ => rfl))) pa_nil)) pe_int) pe_int) pa_nil)) (pv 1)))))), ?_⟩
    walk_at "rd"
    refine ite2 (fun _ => ?_) (fun _ => ?_)
    · walk_at "rd"
      refine And.intro ⟨m0, divs_ok m0 m1⟩ fun t ht => ?_
      walk_at "rd"
      refine k _ (a / m) b _ (Int.emod_nonneg _ (by omega)) (Int.emod_lt_of_pos _ m0) b0 b1 (fun q o n e => ?_) upd_same
      rw [upd_ne n, upd_ne (ne_of_none e ht)]; exact e
    · walk_at "rd"
      refine k _ a ((b * 48271 + 31333) % 2147483497) _ (Int.emod_nonneg _ (by omega)) (Int.emod_lt_of_pos _ m0) (Int.emod_nonneg _ (by decide)) (Int.lt_trans (Int.emod_lt_of_pos _ (by decide)) (by decide)) (fun q o n e => ?_) upd_same
      rw [upd_ne n]; exact e

theorem d_pot (T : Txt K mg) : Df P w K mg base 1 "_law_pot" ["_law_script", "_law_k"] (spPot K) := by
  refine pot_up (T.S_l_pot.by sc_l_pot (fun vs H Q E h => ?_) (fun f cdv A outer s H vs Q E hr hgd h => ?_)) rfl
  · obtain ⟨s, ns, i, rfl, _⟩ := h; rfl
  · obtain ⟨s, ns, i, rfl, hs, l1, i1, k⟩ := h
    refine ⟨_, (pss_cons (ps_set (i := 2) sc_l_pot.nd rfl (by first | exact Or.inl rfl | exact Or.inr rfl) (pe_op op_add (pe_op op_mul pe_int (pv 1)) pe_int))
      (pss_cons (ps_if (pt_cmpR op_lt (pv 1) (pe_callB call_len_seq (by rfl) T.n_len PySem.boot_len (pa_cons (pv 0) pa_nil)) (nomark _)) (pss_one (ps_set (i := 2) sc_l_pot.nd rfl (by first | exact Or.inl rfl | exact Or.inr rfl) (pe_callB call_abs (by rfl) T.n_abs (by decide +kernel) (pa_cons (pe_ix ix_list (pv 0) (pv 1) (fun _ _ => rfl)) pa_nil)))) pss_nil)
      (pss_one (ps_ret (pe_lst (pa_cons (pe_callB (call_max2 rfl) (by rfl) T.n_max (by decide +kernel) (pa_cons pe_int (pa_cons (pe_op op_sub (pv 2) (pe_op op_pow pe_int pe_int)) pa_nil))) (pa_cons (pe_op op_add (pe_op op_mod (pe_callTy call_int1 (by rfl) T.n_int (by decide +kernel) (pa_cons (pe_op op_add (pe_op op_add (pe_op op_mul (pe_op op_mod (pe_callTy call_int1 (by rfl) T.n_int (by decide +kernel) (pa_cons (pv 2) pa_nil)) pe_int) pe_int) (pe_op op_mul pe_int (pv 1))) pe_int) pa_nil)) pe_int) pe_int) pa_nil))))))), ?_⟩
    walk_at "rd"
    refine ite2 (fun c => ?_) (fun c => ?_)
    · have hi : i < ns.length := by
        have z := of_decide_eq_true c
        rw [List.length_map] at z
        omega
      have hn : (ns.map V.int)[i]? = some (V.int ns[i]) := by rw [List.getElem?_map, List.getElem?_eq_getElem hi]; rfl
      walk_at "rd"
      refine And.intro (at_of rfl hn) ?_
      walk_at "rd"
      intro p np
      exact k _ _ p _ (by omega) (by omega) np (Same.new np) upd_same
    · walk_at "rd"
      intro p np
      exact k _ _ p _ (by omega) (by omega) np (Same.new np) upd_same

/-! an index of a list by a draw -/
def spAmong (K : PySem.W.Frag) : Sp := fun vs H Q _ => ∃ (p a : Addr) (xs : List V), vs = [.ref p, .ref a] ∧ H p = some (PotO p) ∧ SqL K H a xs ∧ 0 < xs.length ∧ xs.length ≤ 100000 ∧ ∀ y H', y ∈ xs → L2.Same H H' → Q y H'
theorem d_among (T : Txt K mg) : Df P w K mg base 2 "_law_among" ["_law_pot_here", "_law_some"] (spAmong K) := by
  have D_l_draw := d_draw (P := P) (w := w) (base := base) T
  refine T.S_l_among.by sc_l_among (fun vs H Q E h => ?_) (fun f cdv A outer s H vs Q E hr hgd h => ?_)
  · obtain ⟨p, a, xs, rfl, _⟩ := h; rfl
  · obtain ⟨p, a, xs, rfl, hp, ha, l0, l1, k⟩ := h
    refine ⟨_, (pss_one (ps_ret (pe_ix ix_list (pv 1) (pe_own D_l_draw (hr.mono (by first | decide | omega)) hgd (pa_cons (pv 0) (pa_cons (pe_callB call_len_seq (by rfl) T.n_len PySem.boot_len (pa_cons (pv 1) pa_nil)) pa_nil))) (fun _ _ => rfl)))), ?_⟩
    refine ⟨_, rfl, _, rfl, _, rfl, a, xs, rfl, .inl ha, ?_⟩
    walk_at "rd"
    intro d H' d0 d1 e
    have hd : d.toNat < xs.length := by omega
    refine ⟨a, xs, d, _, rfl, rfl, e.seq ha, at_of (j := d.toNat) (by omega) (List.getElem?_eq_getElem hd), ?_⟩
    exact k _ H' (List.getElem_mem _) e
end
end K13

set_option Elab.async false
set_option linter.all false
set_option maxRecDepth 100000
set_option maxHeartbeats 4000000
namespace K13
open PySem L2 Lay Own SrtO TL
/-- one to eight letters -/
def Wd (z : Str) : Prop := 1 ≤ z.cps.toList.length ∧ z.cps.toList.length ≤ 8 ∧ ∀ c ∈ z.cps.toList, c ∈ letters.cps.toList
theorem Wd.name {z : Str} (h : Wd z) : nameB z = true := by
  obtain ⟨h1, h2, h3⟩ := h
  have e : z.length = z.cps.toList.length := by simp [Str.length]
  unfold nameB
  rw [decide_eq_true (show (1 : Int) ≤ (z.length : Int) by omega), decide_eq_true (show (z.length : Int) ≤ 8 by omega)]
  show (lets z).all id = true
  unfold lets
  rw [List.all_map, List.all_eq_true]
  intro i hi
  have hi := List.mem_range.mp hi
  refine decide_eq_true (h3 _ ?_)
  have : z.cps.getD i 0 = z.cps[i] := by simp [Array.getD, hi]
  rw [this]
  simp
theorem Wd.ok {z : Str} (h : Wd z) : PyData.strOk z = true := by
  unfold PyData.strOk
  rw [Array.all_eq_true_iff_forall_mem]
  intro c hc
  have a : ∀ x ∈ letters.cps.toList, x < 0x110000 := by decide +kernel
  exact decide_eq_true (a c (h.2.2 c (by simpa using hc)))
def sg (c : Nat) : Str := ⟨#[c]⟩
theorem sg_inj {c d : Nat} (h : sg c = sg d) : c = d := by
  have := congrArg (fun z : Str => z.cps.toList) h
  simpa [sg] using this
theorem joined (cs : List Nat) : (Txt.join "" (cs.map sg)).cps.toList = cs := by
  rw [join_eq]
  have h := tl_join "" (cs.map sg)
  have g : ∀ l : List Nat, joinL [] ((l.map sg).map tl) = l := by
    intro l
    induction l with
    | nil => rfl
    | cons a l ih =>
      cases l with
      | nil => rfl
      | cons b l => show tl (sg a) ++ ([] ++ joinL [] (((b :: l).map sg).map tl)) = a :: b :: l; rw [ih]; rfl
  exact h.trans (g cs)
theorem signs_of {Pc : Nat → Prop} : ∀ {ys : List V}, (∀ (i : Nat) y, ys[i]? = some y → ∃ c, Pc c ∧ y = .str (sg c)) → ∃ cs : List Nat, ys = (cs.map sg).map V.str ∧ ∀ c ∈ cs, Pc c
  | [], _ => ⟨[], rfl, fun c h => by cases h⟩
  | y :: ys, h => by
    obtain ⟨c, hc, rfl⟩ := h 0 y rfl
    obtain ⟨cs, e, hcs⟩ := signs_of (ys := ys) fun i z hz => h (i + 1) z (by simpa using hz)
    refine ⟨c :: cs, by rw [e]; rfl, fun d hd => ?_⟩
    rcases List.mem_cons.mp hd with rfl | hd
    · exact hc
    · exact hcs d hd
theorem sum_sg (cs : List Nat) : ((cs.map sg).map (fun x : Str => x.length)).sum = cs.length := by
  induction cs with
  | nil => rfl
  | cons c cs ih => simp only [List.map_cons, List.sum_cons, List.length_cons, ih]; show 1 + cs.length = _; omega
/-- the word with another sign behind its first seven -/
def vary (z : Str) (c : Nat) : Str := cutS z none (some 7) ++ sg c
theorem vary_tl (z : Str) (c : Nat) : (vary z c).cps.toList = z.cps.toList.take 7 ++ [c] := by
  unfold vary
  show tl (cutS z none (some ((7 : Nat) : Int)) ++ sg c) = _
  rw [tl_append]
  show (z.cps.toList.drop (HT.sIx z.length 0 none)).take (HT.sIx z.length z.length (some ((7 : Nat) : Int)) - HT.sIx z.length 0 none) ++ [c] = _
  rw [HT.sIx_nat, HT.sIx_none, List.drop_zero, Nat.sub_zero, len_tl z]
  congr 1
  show (tl z).take (min 7 (tl z).length) = (tl z).take 7
  by_cases q : 7 ≤ (tl z).length
  · rw [Nat.min_eq_left q]
  · rw [Nat.min_eq_right (by omega), List.take_of_length_le (Nat.le_refl _), List.take_of_length_le (by omega)]
theorem Wd.vary {z : Str} {c : Nat} (h : Wd z) (hc : c ∈ letters.cps.toList) : Wd (vary z c) := by
  unfold Wd
  rw [vary_tl, List.length_append, List.length_take]
  refine ⟨by show 1 ≤ _ + 1; omega, by show _ + 1 ≤ 8; omega, fun d hd => ?_⟩
  rcases List.mem_append.mp hd with hd | hd
  · exact h.2.2 d (List.mem_of_mem_take hd)
  · rw [List.mem_singleton.mp hd]; exact hc
theorem vary_inj {z : Str} {c d : Nat} (h : vary z c = vary z d) : c = d := by
  have := congrArg (fun z : Str => z.cps.toList) h
  simp only [vary_tl] at this
  have := List.append_cancel_left this
  simpa using this
/-- more unlike things than there are in the other list -/
theorem pigeon {α : Type} [DecidableEq α] : ∀ {l m : List α}, l.Nodup → m.length < l.length → ∃ x ∈ l, x ∉ m
  | [], m, _, h => by simp at h
  | a :: l, m, hn, h => by
    by_cases c : a ∈ m
    · have hl : (m.erase a).length < l.length := by
        rw [List.length_erase_of_mem c]
        have : 0 < m.length := List.length_pos_of_mem c
        simp at h; omega
      obtain ⟨x, hx, hm⟩ := pigeon (List.nodup_cons.mp hn).2 hl
      refine ⟨x, List.mem_cons_of_mem _ hx, fun z => hm ?_⟩
      exact (List.mem_erase_of_ne (fun e => (List.nodup_cons.mp hn).1 (by rw [← e]; exact hx))).mpr z
    · exact ⟨a, List.mem_cons_self .., c⟩
theorem inV_str (w : Str) (ns : List Str) : inV (.str w) (ns.map V.str) = decide (w ∈ ns) := by
  induction ns with
  | nil => rfl
  | cons n ns ih =>
    show (eqV (.str n) (.str w) || inV (.str w) (ns.map V.str)) = _
    rw [ih]
    show ((n == w) || decide (w ∈ ns)) = _
    by_cases h : w = n
    · subst h; simp
    · have h' : ¬ n = w := fun z => h z.symm
      simp [h, h']
theorem flat_str (ns : List Str) : (ns.map V.str).all flatV = true := by
  rw [List.all_map, List.all_eq_true]
  exact fun _ _ => rfl
theorem vals_of_at {α : Type} {f : α → Str} {cs : List α} {ys : List V} (hl : ys.length = cs.length) (h : ∀ (i : Nat) y, ys[i]? = some y → ∃ c, cs[i]? = some c ∧ y = .str (f c)) : ys = (cs.map f).map V.str := by
  apply List.ext_getElem?
  intro i
  rw [List.getElem?_map, List.getElem?_map]
  cases hy : ys[i]? with
  | none =>
    have : cs.length ≤ i := by rw [← hl]; exact List.getElem?_eq_none_iff.mp hy
    rw [List.getElem?_eq_none this]; rfl
  | some y =>
    obtain ⟨c, hc, rfl⟩ := h i y hy
    rw [hc]; rfl
theorem Wd.len {z : Str} (h : Wd z) : z.length ≤ 8 := by rw [len_tl z]; exact h.2.1
/-- all that may be the new word -/
def fresh (z : Str) : List Str := z :: letters.cps.toList.map (vary z)
theorem fresh_some {z : Str} {found : List Str} (h : found.length < 26) : (fresh z).filter (fun x => !decide (x ∈ found)) ≠ [] := by
  have hn : (letters.cps.toList.map (vary z)).Nodup := by
    rw [List.nodup_iff_pairwise_ne, List.pairwise_map]
    have : letters.cps.toList.Nodup := by decide +kernel
    exact List.Pairwise.imp (fun a e => a (vary_inj e)) this
  have hl : (letters.cps.toList.map (vary z)).length = 26 := by rw [List.length_map]; decide +kernel
  obtain ⟨x, hx, hm⟩ := pigeon (m := found) hn (by rw [hl]; exact h)
  intro e
  have : x ∈ (fresh z).filter (fun x => !decide (x ∈ found)) := List.mem_filter.mpr ⟨List.mem_cons_of_mem _ hx, by rw [decide_eq_false hm]; rfl⟩
  rw [e] at this
  cases this
theorem fresh_wd {z : Str} (h : Wd z) : ∀ x ∈ fresh z, Wd x := fun x hx => by
  rcases List.mem_cons.mp hx with rfl | hx
  · exact h
  · obtain ⟨c, hc, rfl⟩ := List.mem_map.mp hx
    exact h.vary hc
end K13

set_option Elab.async false
set_option linter.all false
set_option maxRecDepth 100000
set_option maxHeartbeats 4000000
namespace K13
open PySem L2 Lay Own SrtO
local macro_rules | `(tactic| walk_at "ne") => `(tactic| first | assumption | (apply Ne.symm; assumption) | exact ne_of_none (by walk_at "look") (by assumption) | exact (ne_of_none (by walk_at "look") (by assumption)).symm)
local macro_rules | `(tactic| walk_at "look") => `(tactic| first | assumption | exact upd_same | (refine Eq.trans (upd_ne ?_) ?_; walk_at "ne"; walk_at "look"))
local macro_rules | `(tactic| walk_at "rds") => `(tactic| first | rfl | assumption | walk_at "look" | exact SqL.of (by walk_at "look") | exact SqT.of (by walk_at "look") | exact Or.inl (SqL.of (by walk_at "look")) | exact Or.inl (by assumption) | decide | omega | exact Nat.le_of_ble_eq_true rfl | exact Or.inr ⟨by decide, by decide⟩ | exact Or.inl ⟨by omega, by omega⟩ | exact ⟨by decide, by decide⟩)
local macro_rules | `(tactic| walk_at "rd1") => `(tactic| first | (apply Exists.intro) | (refine And.intro ?_ ?_; walk_at "rds") | (refine Or.inl ?_; apply Exists.intro; refine And.intro ?_ ?_; rfl))
local macro_rules | `(tactic| walk_at "rd") => `(tactic| repeat walk_at "rd1")
section
variable {P : Program} {w : World} {K : PySem.W.Frag} {mg : Str → Option Value} {base : Heap}
theorem op_notInK {cx : Cx} {C : PySem.W.Frag} (h : cx.K = C) : OpR cx (compareOp .NotIn) (rIn C true) := h ▸ op_notIn_seq
/-! names -/
structure NsOk (ns : List Str) : Prop where
  nd : ns.Nodup
  ok : ∀ z ∈ ns, Wd z
def spNames (K : PySem.W.Frag) : Sp := fun vs H Q _ => ∃ (p : Addr) (n : Nat), vs = [.ref p, .int n] ∧ H p = some (PotO p) ∧ n ≤ 10 ∧ ∀ l ns H', L2.Same H H' → H l = none → H' l = some (.lst (ns.map V.str)) → NsOk ns → ns.length = n → Q (.ref l) H'
theorem d_lnames (T : Txt K mg) : Df P w K mg base 3 "_law_names" ["_law_pot_here", "_law_many"] (spNames K) := by
  have D_l_draw := d_draw (P := P) (w := w) (base := base) T
  have D_l_among := d_among (P := P) (w := w) (base := base) T
  refine T.S_l_names.by sc_l_names (fun vs H Q E h => ?_) (fun f cdv A outer s H vs Q E hr hgd h => ?_)
  · obtain ⟨p, n, rfl, _⟩ := h; rfl
  · obtain ⟨p, n, rfl, hp, ln, k⟩ := h
    refine ⟨_, (pss_cons (ps_asg (pe_tup (pa_cons pe_str (pa_cons (pe_lst pa_nil) pa_nil))) (pg_tup rfl (pgs_cons (pg_name (i := 2) sc_l_names.nd rfl (by first | exact Or.inl rfl | exact Or.inr rfl)) (pgs_cons (pg_name (i := 3) sc_l_names.nd rfl (by first | exact Or.inl rfl | exact Or.inr rfl)) pgs_nil))))
      (pss_cons (ps_for PassesOwn.never rfl (pi_range1 (by rfl) T.n_range (pa_cons (pv 1) pa_nil)) (pg_name (i := 4) sc_l_names.nd rfl (by first | exact Or.inl rfl | exact Or.inr rfl)) (pss_cons (ps_set (i := 5) sc_l_names.nd rfl (by first | exact Or.inl rfl | exact Or.inr rfl) (pe_op op_add pe_int (pe_own D_l_draw (hr.mono (by first | decide | omega)) hgd (pa_cons (pv 0) (pa_cons (pe_own D_l_among (hr.mono (by first | decide | omega)) hgd (pa_cons (pv 0) (pa_cons (pe_lst (pa_cons pe_int (pa_cons pe_int (pa_cons pe_int (pa_cons pe_int pa_nil))))) pa_nil))) pa_nil)))))
      (pss_cons (ps_set (i := 6) sc_l_names.nd rfl (by first | exact Or.inl rfl | exact Or.inr rfl) (pe_join pe_str (pe_lc (own := [("_law_sign", 8)]) rfl sc_l_names.nd (pi_range1 (by rfl) T.n_range (pa_cons (pv 5) pa_nil)) (blkOk_by (own := [("_law_sign", 8)]) (N := ["_law_pot_here", "_law_many", "_law_letters", "_law_found", "_law_turn", "_law_far", "_law_word", "_law_fresh", "_law_sign", "_law_one"]) (sc := defScope s_l_names) (by decide +kernel)) (fun _ _ _ _ _ => (pg_name (i := 8) sc_l_names.nd rfl (by first | exact Or.inl rfl | exact Or.inr rfl))) (fun _ _ _ _ _ => pts_nil) (fun _ _ _ _ _ => (pe_ix ix_str (pv 2) (pe_own D_l_draw (hr.mono (by first | decide | omega)) hgd (pa_cons (pv 0) (pa_cons pe_int pa_nil))) (fun _ _ => rfl))))))
      (pss_cons (ps_set (i := 7) sc_l_names.nd rfl (by first | exact Or.inl rfl | exact Or.inr rfl) (pe_op op_cat (pe_lst (pa_cons (pv 6) pa_nil)) (pe_lc (own := [("_law_sign", 8)]) rfl sc_l_names.nd (pi_str (pv 2)) (blkOk_by (own := [("_law_sign", 8)]) (N := ["_law_pot_here", "_law_many", "_law_letters", "_law_found", "_law_turn", "_law_far", "_law_word", "_law_fresh", "_law_sign", "_law_one"]) (sc := defScope s_l_names) (by decide +kernel)) (fun _ _ _ _ _ => (pg_name (i := 8) sc_l_names.nd rfl (by first | exact Or.inl rfl | exact Or.inr rfl))) (fun _ _ _ _ _ => pts_nil) (fun _ _ _ _ _ => (pe_op op_add_str (pe_slice sl_str (pv 6) po_none (po_some pe_int)) (pv 8))))))
      (pss_one (ps_expr (pe_bm PySem.F.plainAttrs_list PySem.F.slot_list_append PySem.F.type_list_append mt_append (pv 3) (pa_cons (pe_ix ix_list (pe_lc (own := [("_law_one", 9)]) rfl sc_l_names.nd (pi_list (pv 7)) (blkOk_by (own := [("_law_one", 9)]) (N := ["_law_pot_here", "_law_many", "_law_letters", "_law_found", "_law_turn", "_law_far", "_law_word", "_law_fresh", "_law_sign", "_law_one"]) (sc := defScope s_l_names) (by decide +kernel)) (fun _ _ _ _ _ => (pg_name (i := 9) sc_l_names.nd rfl (by first | exact Or.inl rfl | exact Or.inr rfl))) (fun _ _ _ _ _ => pts_one (pt_cmpR (op_notInK (C := K) rfl) (pv 9) (pv 3) (by rfl))) (fun _ _ _ _ _ => (pv 9))) pe_int (fun _ _ => rfl)) pa_nil))))))))
      (pss_one (ps_ret (pv 3))))), ?_⟩
    walk_at "rd"
    intro o no
    walk_at "rd"
    intro t nt
    have s0 : L2.Same H (upd (upd H o (.lst [])) t (.tup [V.str "abcdefghijklmnopqrstuvwxyz", .ref o])) := (Same.new no).trans (Same.new nt)
    have o0 : (upd (upd H o (.lst [])) t (.tup [V.str "abcdefghijklmnopqrstuvwxyz", .ref o])) o = some (.lst []) := by
      rw [upd_ne (fun z => by rw [← z, upd_same] at nt; cases nt)]; exact upd_same
    refine ⟨t, _, rfl, SqT.of upd_same, rfl, _, _, rfl, _, _, rfl, rfl, ?_⟩
    refine ⟨_, rfl, n, rfl, by omega, by omega, ?_⟩
    refine for_it walk_range (fun i σ H' => ∃ (a4 a5 a6 a7 a8 a9 : Option V) (ns : List Str), σ = [some (.ref p), some (.int n), some (.str letters), some (.ref o), a4, a5, a6, a7, a8, a9] ∧ L2.Same H H' ∧ H' o = some (.lst (ns.map V.str)) ∧ NsOk ns ∧ ns.length = i)
      ⟨_, _, _, _, _, _, [], rfl, s0, o0, ⟨List.nodup_nil, fun z hz => by cases hz⟩, rfl⟩ (fun _ _ _ _ _ => trivial) (fun i x σ H1 H2 hi hP y => ?_) (fun σ H1 hP => ?_)
    · obtain ⟨a4, a5, a6, a7, a8, a9, ns, rfl, s1, ho, ok, ln⟩ := hP
      obtain ⟨rfl, rfl⟩ := y
      walk_at "rd"
      intro l nl
      have t1 := s1.trans (Same.new (o := .lst [V.int 1, V.int 2, V.int 3, V.int 8]) nl)
      refine ⟨p, l, _, rfl, t1 _ _ hp, SqL.of upd_same, by decide, by decide, fun y H3 hy s3 => ?_⟩
      have hj : ∃ j : Int, y = .int j ∧ 1 ≤ j ∧ j ≤ 8 := by
        simp only [List.mem_cons, List.not_mem_nil, or_false] at hy
        rcases hy with rfl | rfl | rfl | rfl <;> exact ⟨_, rfl, by decide, by decide⟩
      obtain ⟨j, rfl, j1, j8⟩ := hj
      have t2 := t1.trans s3
      refine ⟨p, j, rfl, t2 _ _ hp, by omega, Int.lt_of_le_of_lt j8 (by decide), fun d H4 d0 d1 s4 => ?_⟩
      have t3 := t2.trans s4
      refine ⟨1, d, rfl, rfl, ?_⟩
      refine ⟨⟨_, rfl⟩, _, rfl, 1 + d, rfl, by omega, by omega, fun D nD => ?_⟩
      refine lc_pure walk_range nD (by omega) (fun _ _ => trivial) (fun i y => ∃ c, c ∈ letters.cps.toList ∧ y = .str (sg c)) (fun i x H5 H6 Kn Z hi sm y q => ?_) (fun H5 ys sm hD hl hr => ?_)
      · obtain ⟨rfl, rfl⟩ := y
        refine ⟨rfl, ?_⟩
        refine ⟨_, rfl, _, rfl, p, 26, rfl, (t3.trans sm) _ _ hp, by decide, by decide, fun d2 H7 e0 e1 s7 => ?_⟩
        have hd : d2.toNat < letters.cps.toList.length := by
          have : letters.cps.toList.length = 26 := by decide +kernel
          omega
        refine ⟨letters, d2, letters.cps.toList[d2.toNat], rfl, rfl, by decide +kernel, (congrArg (atI letters.cps.toList) (show d2 = ((d2.toNat : Nat) : Int) by omega)).trans (atI_nat (List.getElem?_eq_getElem hd)), ?_⟩
        exact q _ _ s7 ⟨_, List.getElem_mem _, rfl⟩
      · obtain ⟨cs, rfl, hcs⟩ := signs_of hr
        have lc : cs.length = (1 + d).toNat := by rw [← hl, List.length_map, List.length_map]
        refine ⟨"", D, cs.map sg, rfl, rfl, .inl (SqL.of hD), ?_, ?_⟩
        · rw [sum_sg, List.length_map]
          show cs.length + cs.length * 0 ≤ _
          omega
        have wz : Wd (Txt.join "" (cs.map sg)) := by
          unfold Wd
          rw [joined]
          exact ⟨by omega, by omega, hcs⟩
        generalize Txt.join "" (cs.map sg) = z at wz
        have t4 := t3.trans sm
        walk_at "rd"
        intro l2 nl2
        have t5 := t4.trans (Same.new (o := .lst [V.str z]) nl2)
        refine ⟨_, rfl, letters, rfl, fun D2 nD2 => ?_⟩
        refine lc_pure walk_str nD2 (by decide +kernel) (fun _ _ => trivial) (fun i y => ∃ c, letters.cps.toList[i]? = some c ∧ y = .str (vary z c)) (fun i x H6 H7 Kn Z hi sm6 y q => ?_) (fun H6 ys sm6 hD2 hl2 hr2 => ?_)
        · obtain ⟨rfl, c, hc, rfl⟩ := y
          refine ⟨rfl, ?_⟩
          walk_at "rd"
          have hc2 : letters.cps.toList[i]? = some c := by rw [Array.getElem?_toList]; exact hc
          have lv := (wz.vary (List.mem_of_getElem? hc2)).len
          have le : (vary z c).length = (cutS z none (some 7)).length + (sg c).length := strLen_append _ _
          refine ⟨Nat.le_trans wz.len (by decide), _, rfl, cutS z none (some 7), sg c, rfl, rfl, Nat.le_trans (m := 8) (by omega) (by decide), q _ _ (Same.refl _) ⟨c, hc2, rfl⟩⟩
        · obtain rfl := vals_of_at (cs := letters.cps.toList) (f := vary z) hl2 hr2
          have t6 := t5.trans sm6
          have h2 : H6 l2 = some (.lst [V.str z]) := sm6 _ _ upd_same
          refine ⟨l2, D2, [V.str z], _, rfl, rfl, h2, hD2, ?_, fun l3 nl3 => ?_⟩
          · rw [List.length_map, List.length_map]
            show 1 + letters.cps.toList.length ≤ sizeLine
            decide +kernel
          have v6 : L2.Same H2 H6 := (Same.new nl).trans (s3.trans (s4.trans (sm.trans ((Same.new nl2).trans sm6))))
          have s7 : L2.Same H6 (upd H6 l3 (.lst ([V.str z] ++ (letters.cps.toList.map (vary z)).map V.str))) := Same.new nl3
          have h7 : (upd H6 l3 (.lst ([V.str z] ++ (letters.cps.toList.map (vary z)).map V.str))) l3 = some (.lst ((fresh z).map V.str)) := upd_same
          generalize upd H6 l3 (.lst ([V.str z] ++ (letters.cps.toList.map (vary z)).map V.str)) = H7 at s7 h7
          have t7 := t6.trans s7
          have ho7 : H7 o = some (.lst (ns.map V.str)) := s7 _ _ (v6 _ _ ho)
          refine ⟨_, rfl, ty_lst ho7, ?_⟩
          refine ⟨_, rfl, l3, rfl, ⟨_, SqL.of h7⟩, fun D4 nD4 => ?_⟩
          refine lc_it (walk_list (xs := (fresh z).map V.str)) (fun i H' => L2.Same H7 H' ∧ H' D4 = some (.lst ((((fresh z).take i).filter (fun x => !decide (x ∈ ns))).map V.str))) ⟨Same.new nD4, upd_same⟩ (fun i H' _ q => SqL.of (q.1 _ _ h7)) (fun i x H8 H9 hi q y => ?_) (fun H8 q => ?_)
          · obtain ⟨s8, h8⟩ := q
            obtain ⟨rfl, hx⟩ := y
            rw [List.getElem?_map] at hx
            obtain ⟨w', hw, rfl⟩ := Option.map_eq_some_iff.mp hx
            refine ⟨rfl, ?_⟩
            have tk : (fresh z).take (i + 1) = (fresh z).take i ++ [w'] := by rw [List.take_add_one, hw]; rfl
            refine ⟨_, rfl, _, rfl, o, ns.map V.str, rfl, .inl (SqL.of (s8 _ _ ho7)), rfl, flat_str ns, _, rfl, ?_⟩
            rw [inV_str]
            refine ite2 (fun c => ?_) (fun c => ?_)
            · refine ⟨_, rfl, _, h8, ?_, Same.mut s8 nD4, ?_⟩
              · rw [List.length_map]
                refine Nat.lt_of_le_of_lt (List.length_filter_le _ _) (Nat.lt_of_le_of_lt (List.length_take_le' _ _) ?_)
                show (letters.cps.toList.map (vary z)).length + 1 < sizeLine
                rw [List.length_map]; decide +kernel
              · rw [tk, List.filter_append, List.map_append]
                have e : [w'].filter (fun x => !decide (x ∈ ns)) = [w'] := by
                  have c : (!decide (w' ∈ ns)) = true := c
                  simp only [List.filter, c]
                rw [e]; exact upd_same
            · refine ⟨s8, ?_⟩
              rw [tk, List.filter_append]
              have e : [w'].filter (fun x => !decide (x ∈ ns)) = [] := by
                have c : (!decide (w' ∈ ns)) = false := Bool.eq_false_iff.mpr c
                simp only [List.filter, c]
              rw [e, List.append_nil]; exact h8
          · obtain ⟨s8, h8⟩ := q
            rw [List.length_map, List.take_length] at h8
            have ne := fresh_some (z := z) (found := ns) (by omega)
            generalize hf : (fresh z).filter (fun x => !decide (x ∈ ns)) = ff at ne h8
            cases ff with
            | nil => exact (ne rfl).elim
            | cons w' rest =>
              have hm : w' ∈ (fresh z).filter (fun x => !decide (x ∈ ns)) := by rw [hf]; exact List.mem_cons_self ..
              obtain ⟨m1, m2⟩ := List.mem_filter.mp hm
              have m3 : ¬ w' ∈ ns := fun z => by rw [decide_eq_true z] at m2; cases m2
              refine ⟨D4, _, 0, .str w', rfl, rfl, SqL.of h8, (show atI _ ((0 : Nat) : Int) = _ from atI_nat rfl), ?_⟩
              refine ⟨o, ns.map V.str, .str w', rfl, rfl, s8 _ _ ho7, ?_, ?_⟩
              · rw [List.length_map]; exact Nat.lt_of_le_of_lt (m := 10) (by omega) (by decide)
              refine ⟨_, _, _, _, _, _, ns ++ [w'], rfl, Same.mut (t7.trans s8) no, ?_, ⟨?_, ?_⟩, ?_⟩
              · rw [List.map_append]; exact upd_same
              · rw [List.nodup_append]
                refine ⟨ok.nd, List.pairwise_singleton _ _, fun a ha b hb q => ?_⟩
                rw [List.mem_singleton] at hb
                subst hb; subst q
                exact m3 ha
              · intro x hx
                rcases List.mem_append.mp hx with hx | hx
                · exact ok.ok x hx
                · rw [List.mem_singleton.mp hx]; exact fresh_wd wz _ m1
              · rw [List.length_append, ln]; rfl
    · obtain ⟨a4, a5, a6, a7, a8, a9, ns, rfl, s1, ho, ok, ln⟩ := hP
      refine ⟨_, rfl, ?_⟩
      exact k o ns H1 s1 no ho ok (by omega)
end
end K13

set_option Elab.async false
set_option linter.all false
set_option maxRecDepth 100000
set_option maxHeartbeats 4000000
namespace K13
open PySem L2 Lay Own SrtO
local macro_rules | `(tactic| walk_at "ne") => `(tactic| first | assumption | (apply Ne.symm; assumption) | exact ne_of_none (by walk_at "look") (by assumption) | exact (ne_of_none (by walk_at "look") (by assumption)).symm)
local macro_rules | `(tactic| walk_at "look") => `(tactic| first | assumption | exact upd_same | (refine Eq.trans (upd_ne ?_) ?_; walk_at "ne"; walk_at "look"))
local macro_rules | `(tactic| walk_at "rds") => `(tactic| first | rfl | assumption | walk_at "look" | exact SqL.of (by walk_at "look") | exact SqT.of (by walk_at "look") | exact Or.inl (SqL.of (by walk_at "look")) | exact Or.inl (by assumption) | decide | omega | exact Nat.le_of_ble_eq_true rfl | exact Or.inr ⟨by decide, by decide⟩ | exact Or.inl ⟨by omega, by omega⟩ | exact ⟨by decide, by decide⟩)
local macro_rules | `(tactic| walk_at "rd1") => `(tactic| first | (apply Exists.intro) | (refine And.intro ?_ ?_; walk_at "rds") | (refine Or.inl ?_; apply Exists.intro; refine And.intro ?_ ?_; rfl))
local macro_rules | `(tactic| walk_at "rd") => `(tactic| repeat walk_at "rd1")
section
variable {P : Program} {w : World} {K : PySem.W.Frag} {mg : Str → Option Value} {base : Heap}
/-! the law's normed -/
def spLNrm (K : PySem.W.Frag) : Sp := fun vs H Q _ => ∃ a xs es, vs = [.ref a] ∧ H a = some (.lst xs) ∧ EL H xs es ∧ 0 < es.length ∧ es.length ≤ 64 ∧
  ∀ p zs fs H', L2.Same H H' → H p = none → H' p = some (.lst zs) → EL H' zs fs → Nrm es fs → Q (.ref p) H'
theorem d_lnormed (T : Txt K mg) : Df P w K mg base 1 "_law_normed" ["_law_some"] (spLNrm K) := by
  refine T.S_l_normed.by sc_l_normed (fun vs H Q E h => ?_) (fun f cdv A outer s H vs Q E hr hgd h => ?_)
  · obtain ⟨a, xs, es, rfl, _⟩ := h; rfl
  · obtain ⟨a, xs, es, rfl, ha, el, l0, l1, k⟩ := h
    refine ⟨_, (pss_cons (ps_asg (pe_tup (pa_cons (pe_callB  (cr_min rfl) (by rfl) T.n_min (by decide +kernel) (pa_cons (pe_lc (own := [("_law_part", 3)]) rfl sc_l_normed.nd (pi_list (pv 0)) (blkOk_by (own := [("_law_part", 3)]) (N := ["_law_some", "_law_left", "_law_low", "_law_part"]) (sc := defScope s_l_normed) (by decide +kernel)) (fun _ _ _ _ _ => (pg_name (i := 3) sc_l_normed.nd rfl (by first | exact Or.inl rfl | exact Or.inr rfl))) (fun _ _ _ _ _ => pts_nil) (fun _ _ _ _ _ => (pe_ix  (ix_tupK (C := K) rfl) (pv 3) pe_int (fun _ _ => rfl)))) pa_nil)) (pa_cons (pe_callB  (cr_min rfl) (by rfl) T.n_min (by decide +kernel) (pa_cons (pe_lc (own := [("_law_part", 3)]) rfl sc_l_normed.nd (pi_list (pv 0)) (blkOk_by (own := [("_law_part", 3)]) (N := ["_law_some", "_law_left", "_law_low", "_law_part"]) (sc := defScope s_l_normed) (by decide +kernel)) (fun _ _ _ _ _ => (pg_name (i := 3) sc_l_normed.nd rfl (by first | exact Or.inl rfl | exact Or.inr rfl))) (fun _ _ _ _ _ => pts_nil) (fun _ _ _ _ _ => (pe_ix  (ix_tupK (C := K) rfl) (pv 3) pe_int (fun _ _ => rfl)))) pa_nil)) pa_nil))) (pg_tup rfl (pgs_cons (pg_name (i := 1) sc_l_normed.nd rfl (by first | exact Or.inl rfl | exact Or.inr rfl)) (pgs_cons (pg_name (i := 2) sc_l_normed.nd rfl (by first | exact Or.inl rfl | exact Or.inr rfl)) pgs_nil))))
      (pss_one (ps_ret (pe_callB  cr_sortE (by rfl) T.n_sorted (by decide +kernel) (pa_cons (pe_lc (own := [("_law_part", 3)]) rfl sc_l_normed.nd (pi_list (pv 0)) (blkOk_by (own := [("_law_part", 3)]) (N := ["_law_some", "_law_left", "_law_low", "_law_part"]) (sc := defScope s_l_normed) (by decide +kernel)) (fun _ _ _ _ _ => (pg_name (i := 3) sc_l_normed.nd rfl (by first | exact Or.inl rfl | exact Or.inr rfl))) (fun _ _ _ _ _ => pts_nil) (fun _ _ _ _ _ => (pe_tup (pa_cons (pe_op op_sub (pe_ix  (ix_tupK (C := K) rfl) (pv 3) pe_int (fun _ _ => rfl)) (pv 1)) (pa_cons (pe_op op_sub (pe_ix  (ix_tupK (C := K) rfl) (pv 3) pe_int (fun _ _ => rfl)) (pv 2)) (pa_cons (pe_ix  (ix_tupK (C := K) rfl) (pv 3) pe_int (fun _ _ => rfl)) pa_nil)))))) pa_nil))))), ?_⟩
    have ln := el.len
    refine ⟨_, rfl, a, rfl, ⟨_, SqL.of ha⟩, fun D nD => ?_⟩
    refine lc_pure (walk_list (xs := xs)) nD (by omega) (fun _ sm => SqL.of (sm _ _ ha)) (fun i y => ∃ e, es[i]? = some e ∧ y = .int e.1) (fun i x H4 H5 Kn Z hi sm y q => ?_) (fun H4 ys sm hD hl hr => ?_)
    · obtain ⟨rfl, hx⟩ := y
      obtain ⟨e, he, t, rfl, ht⟩ := el.at hx
      have ht' := sm _ _ ht
      walk_at "rd"
      exact q _ _ (Same.refl _) ⟨e, he, rfl⟩
    · obtain rfl := ints_of (hl.trans ln) hr
      refine ⟨D, es.map (·.1), rfl, SqL.of hD, by rw [List.length_map]; exact l0, fun lo hm hle => ?_⟩
      refine ⟨_, rfl, a, rfl, ⟨_, SqL.of (sm _ _ ha)⟩, fun D2 nD2 => ?_⟩
      refine lc_pure (walk_list (xs := xs)) nD2 (by omega) (fun _ sm2 => SqL.of (sm2 _ _ (sm _ _ ha))) (fun i y => ∃ e, es[i]? = some e ∧ y = .int e.2.1) (fun i x H5 H6 Kn Z hi sm2 y q => ?_) (fun H5 ys sm2 hD2 hl2 hr2 => ?_)
      · obtain ⟨rfl, hx⟩ := y
        obtain ⟨e, he, t, rfl, ht⟩ := el.at hx
        have ht' := sm2 _ _ (sm _ _ ht)
        walk_at "rd"
        exact q _ _ (Same.refl _) ⟨e, he, rfl⟩
      · obtain rfl := ints_of (hl2.trans ln) hr2
        refine ⟨D2, es.map (·.2.1), rfl, SqL.of hD2, by rw [List.length_map]; exact l0, fun bo hm2 hle2 => ?_⟩
        have s2 := sm.trans sm2
        refine ⟨by show (2 : Nat) ≤ sizeLine; decide +kernel, fun t nt => ?_⟩
        have s3 := s2.trans (Same.new (o := .tup [V.int lo, V.int bo]) nt)
        refine ⟨t, _, rfl, SqT.of upd_same, rfl, _, _, rfl, _, _, rfl, rfl, ?_⟩
        refine ⟨_, rfl, a, rfl, ⟨_, SqL.of (s3 _ _ ha)⟩, fun D3 nD3 => ?_⟩
        refine lc_depI (walk_list (xs := xs)) nD3 (by omega) (fun _ sm3 => SqL.of (sm3 _ _ (s3 _ _ ha))) (fun i H v => ∃ e, es[i]? = some e ∧ EntT H v (mv lo bo e)) (fun i H H' v s ⟨e, he, h⟩ => ⟨e, he, h.same s⟩) (fun i H xs ys v hD ⟨e, he, h⟩ => ⟨e, he, h.mut hD⟩) (fun i x H6 H7 Kn Z hi sm3 _ y q => ?_) (fun H6 ys sm3 hD3 hl3 hr3 => ?_)
        · obtain ⟨rfl, hx⟩ := y
          obtain ⟨e, he, u, rfl, hu⟩ := el.at hx
          have hu' := sm3 _ _ (s3 _ _ hu)
          walk_at "rd"
          exact fun p np => q _ _ (Same.new np) ⟨e, he, p, rfl, upd_same⟩
        · have s4 := s3.trans sm3
          have el3 : EL H6 ys (es.map (mv lo bo)) := el_of (hl3.trans ln) hr3
          refine ⟨D3, ys, _, rfl, SqL.of hD3, el3, fun zs fs p el4 sd pm np => ?_⟩
          exact k p zs fs _ (s4.trans (Same.new np)) (s4.free np) upd_same (el4.same (Same.new np)) ⟨lo, bo, ⟨hm, hle⟩, ⟨hm2, hle2⟩, pm, sd⟩
/-! far -/
theorem sIx_of {d : Int} {n : Nat} (h0 : 0 ≤ d) (h1 : d < n) : seqIndex? d n = some d.toNat := by
  unfold seqIndex?
  have e : ¬ d < 0 := by omega
  simp [e, h0, h1]
theorem erase_perm {α : Type} : ∀ {l : List α} {k : Nat} (h : k < l.length), (l[k] :: l.eraseIdx k).Perm l
  | a :: l, 0, _ => List.Perm.refl _
  | a :: l, k + 1, h => by
    have ih := erase_perm (l := l) (k := k) (by simpa using h)
    show ((a :: l)[k + 1] :: a :: l.eraseIdx k).Perm (a :: l)
    exact (List.Perm.swap _ _ _).trans (List.Perm.cons _ ih)
theorem decV {i j : Int} : decide (V.int i = V.int j) = decide (i = j) := by
  by_cases h : i = j
  · rw [h]; simp
  · rw [decide_eq_false h]; exact decide_eq_false fun z => h (V.int.inj z)
end
end K13

set_option Elab.async false
set_option linter.all false
set_option maxRecDepth 100000
set_option maxHeartbeats 4000000
namespace K13
open PySem L2 Lay Own SrtO
structure Due (es : List Ent) : Prop where
  ok : EsOk es
  sd : Sd entLt es
  x0 : IsMin 0 (es.map (·.1))
  y0 : IsMin 0 (es.map (·.2.1))
  le : ∀ e ∈ es, e.1 ≤ 3 ∧ e.2.1 ≤ 3
  wd : ∀ e ∈ es, Wd e.2.2
theorem Wd.eok {e : Ent} (h : Wd e.2.2) (b1 : -20 ≤ e.1) (b2 : e.1 ≤ 20) (b3 : -20 ≤ e.2.1) (b4 : e.2.1 ≤ 20) : EOk e := ⟨⟨b1, b2⟩, ⟨b3, b4⟩, h.name, Nat.le_trans h.len (by decide), h.ok⟩
theorem mv_inj {lo bo : Int} {e f : Ent} (h : mv lo bo e = mv lo bo f) : e = f := by
  obtain ⟨a, b, c⟩ := e
  obtain ⟨a', b', c'⟩ := f
  simp only [mv, Prod.mk.injEq] at h
  obtain ⟨h1, h2, h3⟩ := h
  rw [show a = a' by omega, show b = b' by omega, h3]
theorem nodup_map {α β : Type} {f : α → β} (hf : ∀ a b, f a = f b → a = b) {l : List α} (h : l.Nodup) : (l.map f).Nodup := by
  rw [List.nodup_iff_pairwise_ne, List.pairwise_map]
  exact List.Pairwise.imp (fun a e => a (hf _ _ e)) h
theorem due_of {es gs : List Ent} (n : Nrm es gs) (nd : es.Nodup) (l0 : 2 ≤ es.length) (l1 : es.length ≤ 6) (b : ∀ e ∈ es, 0 ≤ e.1 ∧ e.1 ≤ 3 ∧ 0 ≤ e.2.1 ∧ e.2.1 ≤ 3 ∧ Wd e.2.2) : Due gs := by
  obtain ⟨lo, bo, ⟨hl, ml⟩, ⟨hb, mb⟩, pm, sd⟩ := n
  have len := pm.length_eq
  rw [List.length_map] at len
  obtain ⟨el, hel, e1⟩ := List.mem_map.mp hl
  obtain ⟨eb, heb, e2⟩ := List.mem_map.mp hb
  have hlo := b el hel
  have hbo := b eb heb
  have e1 : el.1 = lo := e1
  have e2 : eb.2.1 = bo := e2
  have all : ∀ g ∈ gs, 0 ≤ g.1 ∧ g.1 ≤ 3 ∧ 0 ≤ g.2.1 ∧ g.2.1 ≤ 3 ∧ Wd g.2.2 := fun g hg => by
    obtain ⟨e, he, rfl⟩ := List.mem_map.mp (pm.mem_iff.mp hg)
    have q := b e he
    have m1 := ml e.1 (List.mem_map.mpr ⟨e, he, rfl⟩)
    have m2 := mb e.2.1 (List.mem_map.mpr ⟨e, he, rfl⟩)
    refine ⟨by show 0 ≤ e.1 - lo; omega, by show e.1 - lo ≤ 3; omega, by show 0 ≤ e.2.1 - bo; omega, by show e.2.1 - bo ≤ 3; omega, q.2.2.2.2⟩
  have z1 : mv lo bo el ∈ gs := pm.mem_iff.mpr (List.mem_map.mpr ⟨el, hel, rfl⟩)
  have z2 : mv lo bo eb ∈ gs := pm.mem_iff.mpr (List.mem_map.mpr ⟨eb, heb, rfl⟩)
  refine ⟨⟨by omega, by omega, pm.nodup_iff.mpr (nodup_map (fun a c => mv_inj) nd), fun g hg => ?_⟩, sd, ⟨List.mem_map.mpr ⟨_, z1, ?_⟩, fun y hy => ?_⟩, ⟨List.mem_map.mpr ⟨_, z2, ?_⟩, fun y hy => ?_⟩, fun g hg => ?_, fun g hg => (all g hg).2.2.2.2⟩
  · have q := all g hg
    exact q.2.2.2.2.eok (by omega) (by omega) (by omega) (by omega)
  · show el.1 - lo = 0; omega
  · obtain ⟨g, hg, rfl⟩ := List.mem_map.mp hy
    exact (all g hg).1
  · show eb.2.1 - bo = 0; omega
  · obtain ⟨g, hg, rfl⟩ := List.mem_map.mp hy
    exact (all g hg).2.2.1
  · have q := all g hg
    exact ⟨q.2.1, q.2.2.2.1⟩
/-- what has been laid out of the grid -/
structure Grid (h : Int) (ns : List Str) (i j : Nat) (es : List Ent) : Prop where
  nd : es.Nodup
  len : es.length = (i * (h.toNat + 1) + j) * ns.length
  at_ : ∀ e ∈ es, 0 ≤ e.1 ∧ (e.1 < i ∨ (e.1 = i ∧ e.2.1 < j)) ∧ 0 ≤ e.2.1 ∧ e.2.1 ≤ h ∧ e.2.2 ∈ ns
theorem Grid.start {h : Int} {ns : List Str} : Grid h ns 0 0 [] := ⟨List.nodup_nil, by simp, fun e he => by cases he⟩
theorem Grid.row {h : Int} {ns : List Str} {i : Nat} {es : List Ent} (h0 : 0 ≤ h) (g : Grid h ns i (h + 1).toNat es) : Grid h ns (i + 1) 0 es := by
  have e : (h + 1).toNat = h.toNat + 1 := by omega
  refine ⟨g.nd, ?_, fun e he => ?_⟩
  · rw [g.len, e, Nat.succ_mul]; rfl
  · have q := g.at_ e he
    exact ⟨q.1, .inl (by omega), q.2.2⟩
def cellsAt (i j : Nat) (ns : List Str) : List Ent := ns.map fun z => ((i : Int), (j : Int), z)
theorem Grid.step {h : Int} {ns : List Str} {i j : Nat} {es : List Ent} (g : Grid h ns i j es) (nn : ns.Nodup) (hj : (j : Int) ≤ h) : Grid h ns i (j + 1) (es ++ cellsAt i j ns) := by
  refine ⟨?_, ?_, fun e he => ?_⟩
  · rw [List.nodup_append]
    refine ⟨g.nd, nodup_map (fun a b e => by simpa using e) nn, fun a ha b hb q => ?_⟩
    obtain ⟨z, _, rfl⟩ := List.mem_map.mp hb
    subst q
    have := (g.at_ _ ha).2.1
    simp at this
  · rw [List.length_append, g.len]
    unfold cellsAt
    rw [List.length_map, ← Nat.succ_mul]; rfl
  · rcases List.mem_append.mp he with he | he
    · have q := g.at_ e he
      exact ⟨q.1, by omega, q.2.2⟩
    · obtain ⟨z, hz, rfl⟩ := List.mem_map.mp he
      exact ⟨by show (0 : Int) ≤ (i : Int); omega, .inr ⟨rfl, by show (j : Int) < ((j + 1 : Nat) : Int); omega⟩, by show (0 : Int) ≤ (j : Int); omega, hj, hz⟩
theorem Grid.big {b h : Int} {ns : List Str} {es : List Ent} (g : Grid h ns (b + 1).toNat 0 es) (b0 : 0 ≤ b) (b3 : b ≤ 3) (h0 : 0 ≤ h) (h3 : h ≤ 3) (l0 : 1 ≤ ns.length) (l1 : ns.length ≤ 10) (n : ¬ (b = 0 ∧ h = 0 ∧ ns.length = 1)) : 2 ≤ es.length ∧ es.length ≤ 160 := by
  rw [g.len, Nat.add_zero]
  have e1 : (b + 1).toNat ≤ 4 := by omega
  have e2 : h.toNat + 1 ≤ 4 := by omega
  have e3 : 1 ≤ (b + 1).toNat := by omega
  have e4 : 1 ≤ h.toNat + 1 := by omega
  refine ⟨?_, Nat.le_trans (Nat.mul_le_mul (Nat.mul_le_mul e1 e2) l1) (by decide)⟩
  by_cases c1 : b = 0
  · by_cases c2 : h = 0
    · have q := Nat.mul_le_mul (Nat.mul_le_mul e3 e4) (show 2 ≤ ns.length by omega)
      exact q
    · have q := Nat.mul_le_mul (Nat.mul_le_mul e3 (show 2 ≤ h.toNat + 1 by omega)) l0
      exact q
  · have q := Nat.mul_le_mul (Nat.mul_le_mul (show 2 ≤ (b + 1).toNat by omega) e4) l0
    exact q
theorem Grid.small {h : Int} {ns : List Str} {i j : Nat} {es : List Ent} (g : Grid h ns i j es) (i4 : i ≤ 4) (j4 : j ≤ 4) (h3 : h ≤ 3) (l1 : ns.length ≤ 10) : es.length ≤ 200 := by
  rw [g.len]
  have q := Nat.mul_le_mul i4 (show h.toNat + 1 ≤ 4 by omega)
  exact Nat.le_trans (Nat.mul_le_mul (show i * (h.toNat + 1) + j ≤ 20 by omega) l1) (by decide)
/-- a step, and what stands behind it -/
theorem seq_cut {A R : TS} {D : Ends} {σ : L2.St} {H : Hp} (Pm : L2.St → Hp → Prop) (main : ∀ σ' H', Pm σ' H' → R D σ' H') (h : (∀ σ' H', Pm σ' H' → R D σ' H') → tSeq A R D σ H) : tSeq A R D σ H := h main
end K13

set_option Elab.async false
set_option linter.all false
set_option maxRecDepth 100000
set_option maxHeartbeats 4000000
namespace K13
open PySem L2 Lay Own SrtO
local macro_rules | `(tactic| walk_at "ne") => `(tactic| first | assumption | (apply Ne.symm; assumption) | exact ne_of_none (by walk_at "look") (by assumption) | exact (ne_of_none (by walk_at "look") (by assumption)).symm)
local macro_rules | `(tactic| walk_at "look") => `(tactic| first | assumption | exact upd_same | (refine Eq.trans (upd_ne ?_) ?_; walk_at "ne"; walk_at "look"))
local macro_rules | `(tactic| walk_at "rds") => `(tactic| first | rfl | assumption | walk_at "look" | exact SqL.of (by walk_at "look") | exact SqT.of (by walk_at "look") | exact Or.inl (SqL.of (by walk_at "look")) | exact Or.inl (by assumption) | decide | omega | exact Nat.le_of_ble_eq_true rfl | exact Or.inr ⟨by decide, by decide⟩ | exact Or.inl ⟨by omega, by omega⟩ | exact ⟨by decide, by decide⟩)
local macro_rules | `(tactic| walk_at "rd1") => `(tactic| first | (apply Exists.intro) | (refine And.intro ?_ ?_; walk_at "rds") | (refine Or.inl ?_; apply Exists.intro; refine And.intro ?_ ?_; rfl))
local macro_rules | `(tactic| walk_at "rd") => `(tactic| repeat walk_at "rd1")
section
variable {P : Program} {w : World} {K : PySem.W.Frag} {mg : Str → Option Value} {base : Heap}
/-! entries -/
def spLEn (K : PySem.W.Frag) : Sp := fun vs H Q _ => ∃ p a ns, vs = [.ref p, .ref a] ∧ H p = some (PotO p) ∧ H a = some (.lst (ns.map V.str)) ∧ NsOk ns ∧ 1 ≤ ns.length ∧ ns.length ≤ 10 ∧
  ∀ l zs es H', L2.Same H H' → H l = none → H' l = some (.lst zs) → EL H' zs es → Due es → Q (.ref l) H'
theorem d_lentries (T : Txt K mg) : Df P w K mg base 3 "_law_entries" ["_law_pot_here", "_law_tags"] (spLEn K) := by
  have D_l_draw := d_draw (P := P) (w := w) (base := base) T
  have D_l_among := d_among (P := P) (w := w) (base := base) T
  have D_l_normed := d_lnormed (P := P) (w := w) (base := base) T
  refine T.S_l_entries.by sc_l_entries (fun vs H Q E h => ?_) (fun f cdv A outer s H vs Q E hr hgd h => ?_)
  · obtain ⟨p, a, ns, rfl, _⟩ := h; rfl
  · obtain ⟨p, a, ns, rfl, hp, ha, ok, l0, l1, k⟩ := h
    refine ⟨_, (pss_cons (ps_par3 (i := 2) (j := 3) (l := 4) rfl sc_l_entries.nd rfl rfl rfl (by decide) (by decide) (by decide) rfl rfl rfl (pa_cons (pe_own D_l_draw (hr.mono (by first | decide | omega)) hgd (pa_cons (pv 0) (pa_cons pe_int pa_nil))) (pa_cons (pe_own D_l_draw (hr.mono (by first | decide | omega)) hgd (pa_cons (pv 0) (pa_cons pe_int pa_nil))) (pa_cons (pe_lst pa_nil) pa_nil))) (by first | rfl | with_unfolding_all rfl))
      (pss_cons (ps_if (PW.pt (pw_and (pt_cmpR op_eq (pv 2) pe_int (nomark _)) (pw_and (pt_cmpR op_eq (pv 3) pe_int (nomark _)) (pw_and1 (pt_cmpR op_eq (pe_callB call_len_seq (by rfl) T.n_len PySem.boot_len (pa_cons (pv 1) pa_nil)) pe_int (nomark _)))))) (pss_one (ps_set (i := 2) sc_l_entries.nd rfl (by first | exact Or.inl rfl | exact Or.inr rfl) pe_int)) pss_nil)
      (pss_cons (ps_for PassesOwn.never rfl (pi_range1 (by rfl) T.n_range (pa_cons (pe_op op_add (pv 2) pe_int) pa_nil)) (pg_name (i := 5) sc_l_entries.nd rfl (by first | exact Or.inl rfl | exact Or.inr rfl)) (pss_one (ps_for PassesOwn.never rfl (pi_range1 (by rfl) T.n_range (pa_cons (pe_op op_add (pv 3) pe_int) pa_nil)) (pg_name (i := 6) sc_l_entries.nd rfl (by first | exact Or.inl rfl | exact Or.inr rfl)) (pss_one (ps_expr (pe_bm PySem.F.plainAttrs_list PySem.F.slot_list_extend PySem.F.type_list_extend mt_extend (pv 4) (pa_cons (pe_lc (own := [("_law_tag", 9)]) rfl sc_l_entries.nd (pi_list (pv 1)) (blkOk_by (own := [("_law_tag", 9)]) (N := ["_law_pot_here", "_law_tags", "_law_broad", "_law_high", "_law_free", "_law_across", "_law_up", "_law_found", "_law_turn", "_law_tag"]) (sc := defScope s_l_entries) (by decide +kernel)) (fun _ _ _ _ _ => (pg_name (i := 9) sc_l_entries.nd rfl (by first | exact Or.inl rfl | exact Or.inr rfl))) (fun _ _ _ _ _ => pts_nil) (fun _ _ _ _ _ => (pe_tup (pa_cons (pv 5) (pa_cons (pv 6) (pa_cons (pv 9) pa_nil)))))) pa_nil)))))))
      (pss_cons (ps_set (i := 7) sc_l_entries.nd rfl (by first | exact Or.inl rfl | exact Or.inr rfl) (pe_lst pa_nil))
      (pss_cons (ps_for PassesOwn.never rfl (pi_range1 (by rfl) T.n_range (pa_cons (pe_callB (call_min2 rfl) (by rfl) T.n_min (by decide +kernel) (pa_cons (pe_callB call_len_seq (by rfl) T.n_len PySem.boot_len (pa_cons (pv 4) pa_nil)) (pa_cons (pe_own D_l_among (hr.mono (by first | decide | omega)) hgd (pa_cons (pv 0) (pa_cons (pe_lst (pa_cons pe_int (pa_cons pe_int (pa_cons pe_int (pa_cons pe_int (pa_cons pe_int (pa_cons pe_int (pa_cons pe_int pa_nil)))))))) pa_nil))) pa_nil))) pa_nil)) (pg_name (i := 8) sc_l_entries.nd rfl (by first | exact Or.inl rfl | exact Or.inr rfl)) (pss_one (ps_expr (pe_bm PySem.F.plainAttrs_list PySem.F.slot_list_append PySem.F.type_list_append mt_append (pv 7) (pa_cons (pe_bm PySem.F.plainAttrs_list PySem.F.slot_list_pop PySem.F.type_list_pop mt_popAt (pv 4) (pa_cons (pe_own D_l_draw (hr.mono (by first | decide | omega)) hgd (pa_cons (pv 0) (pa_cons (pe_callB call_len_seq (by rfl) T.n_len PySem.boot_len (pa_cons (pv 4) pa_nil)) pa_nil))) pa_nil)) pa_nil)))))
      (pss_one (ps_ret (pe_own D_l_normed (hr.mono (by first | decide | omega)) hgd (pa_cons (pv 7) pa_nil))))))))), ?_⟩
    refine ⟨_, rfl, p, 4, rfl, hp, by decide, by decide, fun d H1 d0 d1 s1 => ?_⟩
    refine ⟨_, rfl, p, 4, rfl, s1 _ _ hp, by decide, by decide, fun h H2 e0 e1 s2 => ?_⟩
    walk_at "rd"
    intro o no
    refine ⟨_, _, _, rfl, ?_⟩
    have s3 : L2.Same H (upd H2 o (.lst [])) := (s1.trans s2).trans (Same.new no)
    have ho3 : (upd H2 o (.lst [])) o = some (.lst []) := upd_same
    have no' : H o = none := (s1.trans s2).free no
    generalize upd H2 o (.lst []) = H3 at s3 ho3
    dsimp only
    refine seq_cut (fun σ' H' => ∃ b : Int, 0 ≤ b ∧ b ≤ 3 ∧ ¬ (b = 0 ∧ h = 0 ∧ ns.length = 1) ∧ σ' = [some (.ref p), some (.ref a), some (.int b), some (.int h), some (.ref o), none, none, none, none, none] ∧ H' = H3) (fun σ' H' q => ?_) (fun main => ?_)
    · obtain ⟨b, b0, b3, nb, rfl, rfl⟩ := q
      refine ⟨_, rfl, b, 1, rfl, rfl, b + 1, rfl, by omega, by omega, ?_⟩
      refine for_it walk_range (fun i σ H' => ∃ (s5 s6 s7 s8 s9 : Option V) (ls : List V) (es : List Ent), σ = [some (.ref p), some (.ref a), some (.int b), some (.int h), some (.ref o), s5, s6, s7, s8, s9] ∧ L2.Same H H' ∧ H' o = some (.lst ls) ∧ EL H' ls es ∧ Grid h ns i 0 es)
        ⟨_, _, _, _, _, [], [], rfl, s3, ho3, .nil, .start⟩ (fun _ _ _ _ _ => trivial) (fun i x σ H4 H5 hi hP y => ?_) (fun σ H4 hP => ?_)
      · obtain ⟨s5, s6, s7, s8, s9, ls, es, rfl, t1, ho, el, gr⟩ := hP
        obtain ⟨rfl, rfl⟩ := y
        refine ⟨_, rfl, h, 1, rfl, rfl, h + 1, rfl, by omega, by omega, ?_⟩
        refine for_it walk_range (fun j σ H' => ∃ (s6 s7 s8 s9 : Option V) (ls : List V) (es : List Ent), σ = [some (.ref p), some (.ref a), some (.int b), some (.int h), some (.ref o), some (.int (0 + (i : Int))), s6, s7, s8, s9] ∧ L2.Same H H' ∧ H' o = some (.lst ls) ∧ EL H' ls es ∧ Grid h ns i j es)
          ⟨_, _, _, _, ls, es, rfl, t1, ho, el, gr⟩ (fun _ _ _ _ _ => trivial) (fun j x σ H6 H7 hj hP y => ?_) (fun σ H6 hP => ?_)
        · obtain ⟨s6, s7, s8, s9, ls, es, rfl, t1, ho, el, gr⟩ := hP
          obtain ⟨rfl, rfl⟩ := y
          refine ⟨_, rfl, ty_lst ho, ?_⟩
          refine ⟨_, rfl, a, rfl, ⟨_, SqL.of (t1 _ _ ha)⟩, fun D nD => ?_⟩
          refine lc_depI (walk_list (xs := ns.map V.str)) nD (by rw [List.length_map]; omega) (fun _ sm => SqL.of (sm _ _ (t1 _ _ ha))) (fun n H v => ∃ z, ns[n]? = some z ∧ EntT H v ((i : Int), (j : Int), z)) (fun n H H' v s ⟨e, he, h⟩ => ⟨e, he, h.same s⟩) (fun n H xs ys v hD ⟨e, he, h⟩ => ⟨e, he, h.mut hD⟩) (fun n x H8 H9 Kn Z hn sm _ y q => ?_) (fun H8 ys sm hD hl hr => ?_)
          · obtain ⟨rfl, hx⟩ := y
            rw [List.getElem?_map] at hx
            obtain ⟨z, hz, rfl⟩ := Option.map_eq_some_iff.mp hx
            walk_at "rd"
            exact fun p np => q _ _ (Same.new np) ⟨z, hz, p, rfl, by rw [upd_same]; show some (HO.tup [V.int (0 + (i : Int)), V.int (0 + (j : Int)), V.str z]) = _; rw [Int.zero_add, Int.zero_add]⟩
          · have el2 : EL H8 ys (cellsAt i j ns) := by
              refine .of_at (by unfold cellsAt; rw [List.length_map, hl, List.length_map]) fun n x e hx he => ?_
              obtain ⟨z, hz, q⟩ := hr n x hx
              unfold cellsAt at he
              rw [List.getElem?_map, hz] at he
              cases he
              exact q
            have le1 := el.len
            have le2 := el2.len
            have sm1 := gr.small (by omega) (by omega) (by omega) l1
            refine ⟨o, D, ls, ys, rfl, rfl, sm _ _ ho, hD, Nat.le_trans (m := 210) (by rw [hl, List.length_map]; omega) (by decide), ?_⟩
            exact ⟨_, _, _, _, ls ++ ys, es ++ cellsAt i j ns, rfl, Same.mut (t1.trans sm) no', upd_same, ((el.same sm).app el2).mut (sm _ _ ho), gr.step ok.nd (by omega)⟩
        · obtain ⟨s6, s7, s8, s9, ls, es, rfl, t1, ho, el, gr⟩ := hP
          exact ⟨_, _, _, _, _, ls, es, rfl, t1, ho, el, gr.row e0⟩
      · obtain ⟨s5, s6, s7, s8, s9, ls, es, rfl, t1, ho, el, gr⟩ := hP
        obtain ⟨big0, big1⟩ := gr.big b0 b3 e0 (by omega) l0 l1 nb
        walk_at "rd"
        intro q0 nq
        have oq : o ≠ q0 := fun z => by rw [← z, ho] at nq; cases nq
        have nq' : H q0 = none := t1.free nq
        have t2 := t1.trans (Same.new (o := .lst []) nq)
        refine ⟨_, rfl, o, ls, rfl, .inl (SqL.of (by rw [upd_ne oq]; exact ho)), ?_⟩
        walk_at "rd"
        intro l nl
        have t3 := t2.trans (Same.new (o := .lst [V.int 2, V.int 2, V.int 3, V.int 3, V.int 4, V.int 5, V.int 6]) nl)
        have u2 : L2.Same H4 (upd (upd H4 q0 (.lst [])) l (.lst [V.int 2, V.int 2, V.int 3, V.int 3, V.int 4, V.int 5, V.int 6])) := (Same.new nq).trans (Same.new nl)
        have q2 : (upd (upd H4 q0 (.lst [])) l (.lst [V.int 2, V.int 2, V.int 3, V.int 3, V.int 4, V.int 5, V.int 6])) q0 = some (.lst []) := Same.new nl _ _ upd_same
        refine ⟨p, l, _, rfl, t3 _ _ hp, SqL.of upd_same, by decide, by decide, fun y H5 hy t5 => ?_⟩
        have hj : ∃ j : Int, y = .int j ∧ 2 ≤ j ∧ j ≤ 6 := by
          simp only [List.mem_cons, List.not_mem_nil, or_false] at hy
          rcases hy with rfl | rfl | rfl | rfl | rfl | rfl | rfl <;> exact ⟨_, rfl, by decide, by decide⟩
        obtain ⟨j, rfl, j2, j6⟩ := hj
        refine ⟨ls.length, j, rfl, ?_⟩
        obtain ⟨m, hm⟩ : ∃ m, (if j < (ls.length : Int) then j else (ls.length : Int)) = m := ⟨_, rfl⟩
        have lle := el.len
        have mb : 2 ≤ m ∧ m ≤ 6 ∧ m ≤ ls.length := by
          by_cases c : j < (ls.length : Int)
          · rw [if_pos c] at hm; omega
          · rw [if_neg c] at hm; omega
        obtain ⟨m2, m6, ml⟩ := mb
        refine ⟨m, by rw [hm], by omega, by omega, ?_⟩
        refine for_it walk_range (fun i σ H' => ∃ (s8 s9 : Option V) (lx fx : List V), σ = [some (.ref p), some (.ref a), some (.int b), some (.int h), some (.ref o), s5, s6, some (.ref q0), s8, s9] ∧ L2.Same H H' ∧ H' o = some (.lst lx) ∧ H' q0 = some (.lst fx) ∧ EL H' ls es ∧ (lx ++ fx).Perm ls ∧ fx.length = i)
          ⟨_, _, ls, [], rfl, t3.trans t5, t5 _ _ (u2 _ _ ho), t5 _ _ q2, (el.same u2).same t5, by rw [List.append_nil], rfl⟩ (fun _ _ _ _ _ => trivial) (fun i x σ H6 H7 hi hP y => ?_) (fun σ H6 hP => ?_)
        · obtain ⟨s8, s9, lx, fx, rfl, t4, ho4, hq4, el4, pm, lf⟩ := hP
          obtain ⟨rfl, rfl⟩ := y
          have l := pm.length_eq
          rw [List.length_append] at l
          refine ⟨_, rfl, ty_lst hq4, _, rfl, ty_lst ho4, _, rfl, _, rfl, o, lx, rfl, .inl (SqL.of ho4), p, lx.length, rfl, t4 _ _ hp, by omega, Int.lt_of_le_of_lt (b := 200) (by omega) (by decide), fun d' H8 d0 d1 s7 => ?_⟩
          have hk : d'.toNat < lx.length := by omega
          refine ⟨o, lx, d', d'.toNat, lx[d'.toNat], rfl, rfl, s7 _ _ ho4, by omega, by omega, sIx_of d0 d1, List.getElem?_eq_getElem hk, ?_⟩
          have hq8 : upd H8 o (.lst (lx.eraseIdx d'.toNat)) q0 = some (.lst fx) := by rw [upd_ne (Ne.symm oq)]; exact s7 _ _ hq4
          refine ⟨q0, fx, _, rfl, rfl, hq8, Nat.lt_of_le_of_lt (m := 200) (by omega) (by decide), ?_⟩
          refine ⟨_, _, lx.eraseIdx d'.toNat, fx ++ [lx[d'.toNat]], rfl, Same.mut (Same.mut (t4.trans s7) no') nq', by rw [upd_ne oq]; exact upd_same, upd_same, ((el4.same s7).mut (s7 _ _ ho4)).mut hq8, ?_, by rw [List.length_append, lf]; rfl⟩
          have e1 := erase_perm hk
          have e2 : (lx.eraseIdx d'.toNat ++ (fx ++ [lx[d'.toNat]])).Perm ((lx[d'.toNat] :: lx.eraseIdx d'.toNat) ++ fx) := by
            rw [← List.append_assoc]
            exact List.perm_append_comm
          exact e2.trans ((e1.append (List.Perm.refl fx)).trans pm)
        · obtain ⟨s8, s9, lx, fx, rfl, t4, ho4, hq4, el4, pm, lf⟩ := hP
          obtain ⟨el5, pm5⟩ := el4.perm pm
          have elf : EL H6 fx (fx.map (entOf H6)) := .of_map fun x hx => el4.ents x (pm.mem_iff.mp (List.mem_append_right _ hx))
          rw [List.map_append] at pm5
          have nd := (List.nodup_append.mp (pm5.nodup_iff.mpr gr.nd)).2.1
          have lm : (fx.map (entOf H6)).length = m.toNat := by rw [List.length_map, lf]
          refine ⟨_, rfl, q0, fx, _, rfl, hq4, elf, by omega, by omega, fun r zs gs H8 s8 nr hr elg nrm => ?_⟩
          refine k r zs gs H8 (t4.trans s8) (t4.free nr) hr elg (due_of nrm nd (by omega) (by omega) fun e he => ?_)
          have q := gr.at_ e (pm5.mem_iff.mp (List.mem_append_right _ he))
          exact ⟨q.1, by omega, q.2.2.1, by omega, ok.ok _ q.2.2.2.2⟩
    · by_cases c1 : d = 0
      · subst c1
        refine ⟨_, rfl, rfl, _, rfl, ?_⟩
        rw [decV, decide_eq_true rfl]
        refine iteT ?_
        by_cases c2 : h = 0
        · subst c2
          refine ⟨_, rfl, rfl, _, rfl, ?_⟩
          rw [decV, decide_eq_true rfl]
          refine iteT ?_
          refine ⟨_, rfl, a, _, rfl, .inl (SqL.of (s3 _ _ ha)), rfl, _, rfl, ?_⟩
          rw [decV]
          by_cases c3 : ((ns.map V.str).length : Int) = 1
          · rw [decide_eq_true c3]
            refine iteT ?_
            exact main _ _ ⟨1, by decide, by decide, fun z => absurd z.1 (by decide), rfl, rfl⟩
          · rw [decide_eq_false c3]
            refine iteF ?_
            rw [List.length_map] at c3
            exact main _ _ ⟨0, by decide, by decide, fun z => c3 (by omega), rfl, rfl⟩
        · refine ⟨_, rfl, rfl, _, rfl, ?_⟩
          rw [decV, decide_eq_false c2]
          refine iteF (iteF ?_)
          exact main _ _ ⟨0, by decide, by decide, fun z => c2 z.2.1, rfl, rfl⟩
      · refine ⟨_, rfl, rfl, _, rfl, ?_⟩
        rw [decV, decide_eq_false c1]
        refine iteF (iteF ?_)
        exact main _ _ ⟨d, d0, by omega, fun z => c1 z.1, rfl, rfl⟩
end
end K13

set_option Elab.async false
set_option linter.all false
set_option maxRecDepth 100000
set_option maxHeartbeats 4000000
namespace K13
open PySem L2 Lay Own SrtO
local macro_rules | `(tactic| walk_at "ne") => `(tactic| first | assumption | (apply Ne.symm; assumption) | exact ne_of_none (by walk_at "look") (by assumption) | exact (ne_of_none (by walk_at "look") (by assumption)).symm)
local macro_rules | `(tactic| walk_at "look") => `(tactic| first | assumption | exact upd_same | (refine Eq.trans (upd_ne ?_) ?_; walk_at "ne"; walk_at "look"))
local macro_rules | `(tactic| walk_at "rds") => `(tactic| first | rfl | assumption | walk_at "look" | exact SqL.of (by walk_at "look") | exact SqT.of (by walk_at "look") | exact Or.inl (SqL.of (by walk_at "look")) | exact Or.inl (by assumption) | decide | omega | exact Nat.le_of_ble_eq_true rfl | exact Or.inr ⟨by decide, by decide⟩ | exact Or.inl ⟨by omega, by omega⟩ | exact ⟨by decide, by decide⟩)
local macro_rules | `(tactic| walk_at "rd1") => `(tactic| first | (apply Exists.intro) | (refine And.intro ?_ ?_; walk_at "rds") | (refine Or.inl ?_; apply Exists.intro; refine And.intro ?_ ?_; rfl))
local macro_rules | `(tactic| walk_at "rd") => `(tactic| repeat walk_at "rd1")
section
variable {P : Program} {w : World} {K : PySem.W.Frag} {mg : Str → Option Value} {base : Heap}
theorem len2 {α : Type} {l : List α} (h : l.length = 2) : ∃ a b, l = [a, b] := by
  match l, h with
  | [a, b], _ => exact ⟨a, b, rfl⟩
theorem len3 {α : Type} {l : List α} (h : l.length = 3) : ∃ a b c, l = [a, b, c] := by
  match l, h with
  | [a, b, c], _ => exact ⟨a, b, c, rfl⟩
theorem len4 {α : Type} {l : List α} (h : l.length = 4) : ∃ a b c d, l = [a, b, c, d] := by
  match l, h with
  | [a, b, c, d], _ => exact ⟨a, b, c, d, rfl⟩
theorem len5 {α : Type} {l : List α} (h : l.length = 5) : ∃ a b c d e, l = [a, b, c, d, e] := by
  match l, h with
  | [a, b, c, d, e], _ => exact ⟨a, b, c, d, e, rfl⟩
theorem len6 {α : Type} {l : List α} (h : l.length = 6) : ∃ a b c d e f, l = [a, b, c, d, e, f] := by
  match l, h with
  | [a, b, c, d, e, f], _ => exact ⟨a, b, c, d, e, f, rfl⟩
def spKd (K : PySem.W.Frag) : Sp := fun vs H Q E => ∃ a xs oc, vs = [.ref a] ∧ H a = some (.lst xs) ∧ 2 ≤ xs.length ∧ xs.length ≤ 6 ∧ Ls K H xs oc ∧ Told K H Q E oc
theorem d_kind (T : Txt K mg) : Rx.DfX P w K mg base 9 "_law_kind" ["_law_some"] (spKd K) := by
  refine Rx.srcX T.S_l_kind sc_l_kind (fun vs H Q E h => ?_) (fun f cdv A outer s H vs Q E hr hgd h => ?_)
  · obtain ⟨a, xs, oc, rfl, _⟩ := h; rfl
  · obtain ⟨a, xs, oc, rfl, ha, l0, l1, ls, td⟩ := h
    refine ⟨_, (pss_cons (ps_if (pt_cmpR op_eq (pe_callB call_len_seq (by rfl) T.n_len PySem.boot_len (pa_cons (pv 0) pa_nil)) pe_int (nomark _)) (pss_one (ps_ret (Rx.pe_makeX Rx.takesD T.maker (d_init T) (hr.mono (by first | decide | omega)) hgd T.g_Kind (pa_cons (pe_ix ix_list (pv 0) pe_int (fun _ _ => rfl)) (pa_cons (pe_ix ix_list (pv 0) pe_int (fun _ _ => rfl)) pa_nil))))) pss_nil)
      (pss_cons (ps_if (pt_cmpR op_eq (pe_callB call_len_seq (by rfl) T.n_len PySem.boot_len (pa_cons (pv 0) pa_nil)) pe_int (nomark _)) (pss_one (ps_ret (Rx.pe_makeX Rx.takesD T.maker (d_init T) (hr.mono (by first | decide | omega)) hgd T.g_Kind (pa_cons (pe_ix ix_list (pv 0) pe_int (fun _ _ => rfl)) (pa_cons (pe_ix ix_list (pv 0) pe_int (fun _ _ => rfl)) (pa_cons (pe_ix ix_list (pv 0) pe_int (fun _ _ => rfl)) pa_nil)))))) pss_nil)
      (pss_cons (ps_if (pt_cmpR op_eq (pe_callB call_len_seq (by rfl) T.n_len PySem.boot_len (pa_cons (pv 0) pa_nil)) pe_int (nomark _)) (pss_one (ps_ret (Rx.pe_makeX Rx.takesD T.maker (d_init T) (hr.mono (by first | decide | omega)) hgd T.g_Kind (pa_cons (pe_ix ix_list (pv 0) pe_int (fun _ _ => rfl)) (pa_cons (pe_ix ix_list (pv 0) pe_int (fun _ _ => rfl)) (pa_cons (pe_ix ix_list (pv 0) pe_int (fun _ _ => rfl)) (pa_cons (pe_ix ix_list (pv 0) pe_int (fun _ _ => rfl)) pa_nil))))))) pss_nil)
      (pss_cons (ps_if (pt_cmpR op_eq (pe_callB call_len_seq (by rfl) T.n_len PySem.boot_len (pa_cons (pv 0) pa_nil)) pe_int (nomark _)) (pss_one (ps_ret (Rx.pe_makeX Rx.takesD T.maker (d_init T) (hr.mono (by first | decide | omega)) hgd T.g_Kind (pa_cons (pe_ix ix_list (pv 0) pe_int (fun _ _ => rfl)) (pa_cons (pe_ix ix_list (pv 0) pe_int (fun _ _ => rfl)) (pa_cons (pe_ix ix_list (pv 0) pe_int (fun _ _ => rfl)) (pa_cons (pe_ix ix_list (pv 0) pe_int (fun _ _ => rfl)) (pa_cons (pe_ix ix_list (pv 0) pe_int (fun _ _ => rfl)) pa_nil)))))))) pss_nil)
      (pss_one (ps_ret (Rx.pe_makeX Rx.takesD T.maker (d_init T) (hr.mono (by first | decide | omega)) hgd T.g_Kind (pa_cons (pe_ix ix_list (pv 0) pe_int (fun _ _ => rfl)) (pa_cons (pe_ix ix_list (pv 0) pe_int (fun _ _ => rfl)) (pa_cons (pe_ix ix_list (pv 0) pe_int (fun _ _ => rfl)) (pa_cons (pe_ix ix_list (pv 0) pe_int (fun _ _ => rfl)) (pa_cons (pe_ix ix_list (pv 0) pe_int (fun _ _ => rfl)) (pa_cons (pe_ix ix_list (pv 0) pe_int (fun _ _ => rfl)) pa_nil))))))))))))), ?_⟩
    have lx : xs.length ≤ 1000 := by omega
    have hs := SqL.of (K := K) ha
    refine ⟨_, rfl, a, xs, rfl, .inl hs, rfl, ?_⟩
    refine ⟨_, rfl, ?_⟩
    rw [decV]
    by_cases c2 : (xs.length : Int) = 2
    · rw [decide_eq_true c2]
      refine iteT ?_
      obtain ⟨x0, x1, rfl⟩ := len2 (show xs.length = 2 by omega)
      refine ⟨_, rfl, a, _, 0, x0, rfl, rfl, hs, rfl, _, rfl, a, _, 1, x1, rfl, rfl, hs, rfl, ?_⟩
      exact fun x dx nx nd ne => make_told lx ls td x dx nx nd ne
    rw [decide_eq_false c2]
    refine iteF ?_
    refine ⟨_, rfl, a, xs, rfl, .inl hs, rfl, ?_⟩
    refine ⟨_, rfl, ?_⟩
    rw [decV]
    by_cases c3 : (xs.length : Int) = 3
    · rw [decide_eq_true c3]
      refine iteT ?_
      obtain ⟨x0, x1, x2, rfl⟩ := len3 (show xs.length = 3 by omega)
      refine ⟨_, rfl, a, _, 0, x0, rfl, rfl, hs, rfl, _, rfl, a, _, 1, x1, rfl, rfl, hs, rfl, _, rfl, a, _, 2, x2, rfl, rfl, hs, rfl, ?_⟩
      exact fun x dx nx nd ne => make_told lx ls td x dx nx nd ne
    rw [decide_eq_false c3]
    refine iteF ?_
    refine ⟨_, rfl, a, xs, rfl, .inl hs, rfl, ?_⟩
    refine ⟨_, rfl, ?_⟩
    rw [decV]
    by_cases c4 : (xs.length : Int) = 4
    · rw [decide_eq_true c4]
      refine iteT ?_
      obtain ⟨x0, x1, x2, x3, rfl⟩ := len4 (show xs.length = 4 by omega)
      refine ⟨_, rfl, a, _, 0, x0, rfl, rfl, hs, rfl, _, rfl, a, _, 1, x1, rfl, rfl, hs, rfl, _, rfl, a, _, 2, x2, rfl, rfl, hs, rfl, _, rfl, a, _, 3, x3, rfl, rfl, hs, rfl, ?_⟩
      exact fun x dx nx nd ne => make_told lx ls td x dx nx nd ne
    rw [decide_eq_false c4]
    refine iteF ?_
    refine ⟨_, rfl, a, xs, rfl, .inl hs, rfl, ?_⟩
    refine ⟨_, rfl, ?_⟩
    rw [decV]
    by_cases c5 : (xs.length : Int) = 5
    · rw [decide_eq_true c5]
      refine iteT ?_
      obtain ⟨x0, x1, x2, x3, x4, rfl⟩ := len5 (show xs.length = 5 by omega)
      refine ⟨_, rfl, a, _, 0, x0, rfl, rfl, hs, rfl, _, rfl, a, _, 1, x1, rfl, rfl, hs, rfl, _, rfl, a, _, 2, x2, rfl, rfl, hs, rfl, _, rfl, a, _, 3, x3, rfl, rfl, hs, rfl, _, rfl, a, _, 4, x4, rfl, rfl, hs, rfl, ?_⟩
      exact fun x dx nx nd ne => make_told lx ls td x dx nx nd ne
    rw [decide_eq_false c5]
    refine iteF ?_
    obtain ⟨x0, x1, x2, x3, x4, x5, rfl⟩ := len6 (show xs.length = 6 by omega)
    refine ⟨_, rfl, a, _, 0, x0, rfl, rfl, hs, rfl, _, rfl, a, _, 1, x1, rfl, rfl, hs, rfl, _, rfl, a, _, 2, x2, rfl, rfl, hs, rfl, _, rfl, a, _, 3, x3, rfl, rfl, hs, rfl, _, rfl, a, _, 4, x4, rfl, rfl, hs, rfl, _, rfl, a, _, 5, x5, rfl, rfl, hs, rfl, ?_⟩
    exact fun x dx nx nd ne => make_told lx ls td x dx nx nd ne
end
end K13

set_option Elab.async false
set_option linter.all false
set_option maxRecDepth 100000
set_option maxHeartbeats 4000000
namespace K13
open PySem L2 Lay Own SrtO
local macro_rules | `(tactic| walk_at "ne") => `(tactic| first | assumption | (apply Ne.symm; assumption) | exact ne_of_none (by walk_at "look") (by assumption) | exact (ne_of_none (by walk_at "look") (by assumption)).symm)
local macro_rules | `(tactic| walk_at "look") => `(tactic| first | assumption | exact upd_same | (refine Eq.trans (upd_ne ?_) ?_; walk_at "ne"; walk_at "look"))
local macro_rules | `(tactic| walk_at "rds") => `(tactic| first | rfl | assumption | walk_at "look" | exact SqL.of (by walk_at "look") | exact SqT.of (by walk_at "look") | exact Or.inl (SqL.of (by walk_at "look")) | exact Or.inl (by assumption) | decide | omega | exact Nat.le_of_ble_eq_true rfl | exact Or.inr ⟨by decide, by decide⟩ | exact Or.inl ⟨by omega, by omega⟩ | exact ⟨by decide, by decide⟩)
local macro_rules | `(tactic| walk_at "rd1") => `(tactic| first | (apply Exists.intro) | (refine And.intro ?_ ?_; walk_at "rds") | (refine Or.inl ?_; apply Exists.intro; refine And.intro ?_ ?_; rfl))
local macro_rules | `(tactic| walk_at "rd") => `(tactic| repeat walk_at "rd1")
section
/-- what _law_heard makes of an error, of what is told -/
def wE (K : PySem.W.Frag) (Q : VK) : XK := fun cls d H' =>
  (cls = .ref (He.ga K "InvalidEntries") ∧ ∃ dd p, d = some dd ∧ H' dd = some (exd dd [("position", p)]) ∧ ∀ l H2, L2.Same H' H2 → H' l = none → H2 l = some (.lst [.str "entries", p, .bl true]) → Q (.ref l) H2) ∨
  (cls = .ref (He.ga K "TooMany") ∧ ∃ dd z, d = some dd ∧ H' dd = some (exd dd (Exv.mk2 "what" "limit" [.str z, .int 3])) ∧ ∀ l H2, L2.Same H' H2 → H' l = none → H2 l = some (.lst [.str "many", .str z, .int 3, .bl true]) → Q (.ref l) H2)
def wT (Q : VK) : VK := fun v H' => ∀ l H2, L2.Same H' H2 → H' l = none → H2 l = some (.lst [.str "told", v]) → Q (.ref l) H2
def TTh (K : PySem.W.Frag) : (XK → Hp → VK → Prop) → Hp → VK → Prop := fun tl H Q => ∀ (H1 : Hp) (R : VK), L2.Same H H1 → (∀ v H', wT Q v H' → R v H') → tl (wE K Q) H1 R
theorem heard_gives {X : Cx} (T : Txt X.K X.mg) {g : Addr} {cdg : Value} {q : Str} : Rx.GivesW X ["_law_call", "_law_heard_here", "e"] "_law_heard" (defScope s_l_heard) g cdg (defBody s_l_heard) "_law_call" q (TTh X.K) := by
  intro f c' s H Q tl act hc h
  refine ⟨_, (pss_cons (ps_set (i := 1) sc_l_heard.nd rfl (by first | exact Or.inl rfl | exact Or.inr rfl) (pe_lst (pa_cons pe_str pa_nil)))
      (pss_cons (Rx.ps_tryA (i := 2) rfl rfl sc_l_heard.nd rfl rfl (fun W pn xe tk _ => (pss_one (ps_set (i := 1) sc_l_heard.nd rfl (by first | exact Or.inl rfl | exact Or.inr rfl) (pe_lst (pa_cons pe_str (pa_cons (act W pn xe _ _ tk) pa_nil)))))) (.cons ⟨rfl, by decide, .inl T.g_InvalidEntries⟩ (fun er ob cls d pn hz hd => (pss_one (ps_set (i := 1) sc_l_heard.nd rfl (by first | exact Or.inl rfl | exact Or.inr rfl) (pe_lst (pa_cons pe_str (pa_cons (Rx.pe_cf (T.e_InvalidEntries X.prog X.w X.base).cl T.no_InvalidEntries_position hz hd (pv 2)) (pa_cons (pe_callB  (Rx.call_ci (T.e_InvalidEntries X.prog X.w X.base).cl T.gs hz hd) (by rfl) T.n_isinstance (by decide +kernel) (pa_cons (pv 2) (pa_cons (pe_glob (v := .ref (He.ga X.K "LineError")) (by rfl) T.g_LineError rfl) pa_nil))) pa_nil))))))) (.cons ⟨rfl, by decide, .inl T.g_TooMany⟩ (fun er ob cls d pn hz hd => (pss_one (ps_set (i := 1) sc_l_heard.nd rfl (by first | exact Or.inl rfl | exact Or.inr rfl) (pe_lst (pa_cons pe_str (pa_cons (Rx.pe_cf (T.e_TooMany X.prog X.w X.base).cl T.no_TooMany_what hz hd (pv 2)) (pa_cons (Rx.pe_cf (T.e_TooMany X.prog X.w X.base).cl T.no_TooMany_limit hz hd (pv 2)) (pa_cons (pe_callB  (Rx.call_ci (T.e_TooMany X.prog X.w X.base).cl T.gs hz hd) (by rfl) T.n_isinstance (by decide +kernel) (pa_cons (pv 2) (pa_cons (pe_glob (v := .ref (He.ga X.K "LimitError")) (by rfl) T.g_LimitError rfl) pa_nil))) pa_nil)))))))) .nil)))
      (pss_one (ps_ret (pv 1))))), ?_⟩
  walk_at "rd"
  intro l0 n0
  have s0 := Same.new (o := .lst [.str "none"]) n0
  refine ⟨wE X.K Q, fun cls d G' he => ?_, rfl, s0 _ _ hc, ?_⟩
  · rcases he with ⟨rfl, dd, p, rfl, hd, k⟩ | ⟨rfl, dd, z, rfl, hd, k⟩
    · refine ⟨true, T.x_ii, (fun _ e ne => ?_), (fun z => nomatch z)⟩
      refine ⟨_, rfl, rfl, rfl, dd, _, p, rfl, hd, rfl, _, rfl, _, _, true, dd, _, rfl, rfl, rfl, hd, .own _, T.ki_InvalidEntries, ?_⟩
      walk_at "rd"
      intro l nl
      exact ⟨_, rfl, k l _ (Same.new nl) nl upd_same⟩
    · refine ⟨false, T.x_ti, (fun z => nomatch z), (fun _ => ⟨true, T.x_tt, (fun _ e ne => ?_), (fun z => nomatch z)⟩)⟩
      refine ⟨_, rfl, rfl, rfl, dd, _, .str z, rfl, hd, rfl, _, rfl, rfl, rfl, dd, _, .int 3, rfl, hd, rfl, _, rfl, _, _, true, dd, _, rfl, rfl, rfl, hd, .own _, T.ki_TooMany, ?_⟩
      walk_at "rd"
      intro l nl
      exact ⟨_, rfl, k l _ (Same.new nl) nl upd_same⟩
  · refine h _ _ s0 fun v H' t => ?_
    refine ⟨(by show (2 : Nat) ≤ sizeLine; decide +kernel), fun l nl => ⟨_, rfl, t l _ (Same.new nl) nl upd_same⟩⟩
end
end K13

set_option Elab.async false
set_option linter.all false
set_option maxRecDepth 100000
set_option maxHeartbeats 4000000
namespace K13
open PySem L2 Lay Own SrtO
local macro_rules | `(tactic| walk_at "ne") => `(tactic| first | assumption | (apply Ne.symm; assumption) | exact ne_of_none (by walk_at "look") (by assumption) | exact (ne_of_none (by walk_at "look") (by assumption)).symm)
local macro_rules | `(tactic| walk_at "look") => `(tactic| first | assumption | exact upd_same | (refine Eq.trans (upd_ne ?_) ?_; walk_at "ne"; walk_at "look"))
local macro_rules | `(tactic| walk_at "rds") => `(tactic| first | rfl | assumption | walk_at "look" | exact SqL.of (by walk_at "look") | exact SqT.of (by walk_at "look") | exact Or.inl (SqL.of (by walk_at "look")) | exact Or.inl (by assumption) | decide | omega | exact Nat.le_of_ble_eq_true rfl | exact Or.inr ⟨by decide, by decide⟩ | exact Or.inl ⟨by omega, by omega⟩ | exact ⟨by decide, by decide⟩)
local macro_rules | `(tactic| walk_at "rd1") => `(tactic| first | (apply Exists.intro) | (refine And.intro ?_ ?_; walk_at "rds") | (refine Or.inl ?_; apply Exists.intro; refine And.intro ?_ ?_; rfl))
local macro_rules | `(tactic| walk_at "rd") => `(tactic| repeat walk_at "rd1")
section
mutual
theorem Sw_same {K : PySem.W.Frag} {H H' : Hp} (s : L2.Same H H') : ∀ {as : List Addr} {x : V} {t : Str}, Rp.Sw K H as x t → Rp.Sw K H' as x t
  | _, _, _, .non => .non
  | _, _, _, .bl b => .bl b
  | _, _, _, .int i h => .int i h
  | _, _, _, .str z => .str z
  | _, _, _, .lst0 h => .lst0 (s _ _ h)
  | _, _, _, .lst h l n => .lst (s _ _ h) (SwL_same s l) n
  | _, _, _, .tup h l n => .tup (s _ _ h) (SwL_same s l) n
  | _, _, _, .dct h l1 l n => .dct (s _ _ h) (SwL_same s l1) (SwL_same s l) n
  | _, _, _, .exc d h hd ht R l n hl => .exc d (s _ _ h) (s _ _ hd) (s _ _ ht) R (SwL_same s l) n hl
theorem SwL_same {K : PySem.W.Frag} {H H' : Hp} (s : L2.Same H H') : ∀ {as : List Addr} {xs : List V} {ts : List Str}, Rp.SwL K H as xs ts → Rp.SwL K H' as xs ts
  | _, _, _, .nil => .nil
  | _, _, _, .cons h l => .cons (Sw_same s h) (SwL_same s l)
end
variable {P : Program} {w : World} {K : PySem.W.Frag} {mg : Str → Option Value} {base : Heap} {H H' : Hp}
/-- a value whose text is told -/
def RepOk (K : PySem.W.Frag) (H : Hp) (y : V) : Prop := ∃ as t, Rp.Sw K H as y t ∧ as.length ≤ 4 ∧ t.length ≤ 30000 ∧ ∀ a ∈ as, H a ≠ none
theorem RepOk.same {y : V} (h : RepOk K H y) (s : L2.Same H H') : RepOk K H' y := by
  obtain ⟨as, t, sw, l1, l2, n⟩ := h
  refine ⟨as, t, Sw_same s sw, l1, l2, fun a ha z => ?_⟩
  cases e : H a with
  | none => exact n a ha e
  | some o => rw [s _ _ e] at z; cases z
/-- no entry, its text told -/
def OddV (K : PySem.W.Frag) (H : Hp) (y : V) : Prop := NotE K H y ∧ RepOk K H y
theorem OddV.same {y : V} (h : OddV K H y) (s : L2.Same H H') : OddV K H' y := ⟨h.1.same s, h.2.same s⟩
/-- a flat value within a tuple -/
structure Fl (K : PySem.W.Frag) (H : Hp) (x : V) (t : Str) : Prop where
  sw : Rp.Sw K H [] x t
  it : It K H x
  l : t.length ≤ 600
theorem Fl.same {x : V} {t : Str} (h : Fl K H x t) (s : L2.Same H H') : Fl K H' x t := ⟨Sw_same s h.sw, h.it.same s, h.l⟩
theorem fl_int {i : Int} (h1 : -100 ≤ i) (h2 : i ≤ 100) : Fl K H (.int i) (toString i) := by
  refine ⟨.int _ ?_, .int _, Nat.le_trans (int_len h1 h2) (by decide)⟩
  have h : i.natAbs < 2 ^ 10 := by show i.natAbs < 1024; omega
  rcases Nat.eq_zero_or_pos i.natAbs with z | z
  · rw [z]; decide
  · exact Nat.lt_trans ((Nat.log2_lt (by omega)).mpr h) (by decide)
theorem fl_big : Fl K H (.int (10 ^ 30)) (toString ((10 : Int) ^ 30)) := ⟨.int _ (by decide +kernel), .int _, by decide +kernel⟩
theorem fl_str {z : Str} (h : ∀ c ∈ z.cps.toList, c < 16 ^ 8) (l : z.length ≤ 20) : Fl K H (.str z) (reprText z) := by
  refine ⟨.str z, .str z (by omega), ?_⟩
  have := PySem.StrLaws.reprText_len z h
  omega
theorem fl_non : Fl K H .non "None" := ⟨.non, .non, by decide +kernel⟩
theorem fl_bl (b : Bool) : Fl K H (.bl b) (if b then "True" else "False") := ⟨.bl b, .bl b, by cases b <;> decide +kernel⟩
theorem fl_nil {a : Addr} (h : H a = some (.lst [])) : Fl K H (.ref a) "[]" := ⟨.lst0 h, .lst h, by decide +kernel⟩
/-- what a tuple of flat values is -/
theorem odd_tup {a : Addr} {xs : List V} {ts : List Str} (h : H a = some (.tup xs)) (l : Rp.SwL K H [] xs ts) (lt : ∀ t ∈ ts, t.length ≤ 600) (l4 : ts.length ≤ 4) (n : NotE K H (.ref a)) : OddV K H (.ref a) := by
  refine ⟨n, [a], tupleText ts, .tup h l (by simp), by simp, ?_, fun b hb => ?_⟩
  · have z := PySem.tupleText_len_le ts
    have s : (ts.map (·.length)).sum ≤ 600 * ts.length := by
      clear z l l4 h n
      induction ts with
      | nil => simp
      | cons t ts ih =>
        have h1 := lt t (List.mem_cons_self ..)
        have h2 := ih fun u hu => lt u (List.mem_cons_of_mem _ hu)
        simp only [List.map_cons, List.sum_cons, List.length_cons]
        omega
    omega
  · obtain rfl := List.mem_singleton.mp hb
    rw [h]; simp
theorem odd3 {a : Addr} {x y z : V} {tx ty tz : Str} (h : H a = some (.tup [x, y, z])) (fx : Fl K H x tx) (fy : Fl K H y ty) (fz : Fl K H z tz) (n : (dB x && (dB y && nB z)) = false) : OddV K H (.ref a) := by
  refine odd_tup (ts := [tx, ty, tz]) h (.cons fx.sw (.cons fy.sw (.cons fz.sw .nil))) (fun t ht => ?_) (by simp) ⟨.tup h, .inr ⟨a, x, y, z, rfl, h, fx.it, fy.it, fz.it, n⟩⟩
  simp only [List.mem_cons, List.not_mem_nil, or_false] at ht
  rcases ht with rfl | rfl | rfl
  · exact fx.l
  · exact fy.l
  · exact fz.l
theorem nab {x y z : V} (h : dB x = false ∨ dB y = false ∨ nB z = false) : (dB x && (dB y && nB z)) = false := by
  rcases h with h | h | h <;> rw [h] <;> simp
/-- one more wrong value -/
def AllO (K : PySem.W.Frag) (H : Hp) (ys : List V) : Prop := ∀ y ∈ ys, OddV K H y
theorem AllO.same {ys : List V} (h : AllO K H ys) (s : L2.Same H H') : AllO K H' ys := fun y hy => (h y hy).same s
theorem AllO.more {ys : List V} {y : V} (h : AllO K H ys) (o : OddV K H y) : AllO K H (ys ++ [y]) := fun v hv => by
  rcases List.mem_append.mp hv with hv | hv
  · exact h v hv
  · obtain rfl := List.mem_singleton.mp hv; exact o
theorem AllO.app {ys zs : List V} (h : AllO K H ys) (o : AllO K H zs) : AllO K H (ys ++ zs) := fun v hv => (List.mem_append.mp hv).elim (h v) (o v)
theorem laid {a : Addr} {o : HO} (n : H a = none) : ∃ G, upd H a o = G ∧ L2.Same H G ∧ G a = some o := ⟨_, rfl, Same.new n, upd_same⟩
/-- an entry of the law's own, its name of letters -/
structure LawE (e : Ent) : Prop where
  a0 : 0 ≤ e.1
  a3 : e.1 ≤ 3
  u0 : 0 ≤ e.2.1
  u3 : e.2.1 ≤ 3
  n : Wd e.2.2
theorem LawE.fa {e : Ent} (h : LawE e) : Fl K H (.int e.1) (toString e.1) := fl_int (by have := h.a0; omega) (by have := h.a3; omega)
theorem LawE.fu {e : Ent} (h : LawE e) : Fl K H (.int e.2.1) (toString e.2.1) := fl_int (by have := h.u0; omega) (by have := h.u3; omega)
theorem LawE.ft {e : Ent} (h : LawE e) : Fl K H (.str e.2.2) (reprText e.2.2) := fl_str (name_small h.n.name) (by have := h.n.len; omega)
theorem odd_non : OddV K H .non := ⟨⟨.non, .inl fun a ys e => by cases e⟩, [], _, .non, by simp, by decide +kernel, by simp⟩
theorem odd_int (i : Int) (h1 : -100 ≤ i) (h2 : i ≤ 100) : OddV K H (.int i) := ⟨⟨.int _, .inl fun a ys e => by cases e⟩, [], _, (fl_int (H := H) h1 h2).sw, by simp, Nat.le_trans (fl_int (K := K) (H := H) h1 h2).l (by decide), by simp⟩
theorem odd_str {z : Str} (h : ∀ c ∈ z.cps.toList, c < 16 ^ 8) (l : z.length ≤ 20) : OddV K H (.str z) := ⟨⟨.str _ (by omega), .inl fun a ys e => by cases e⟩, [], _, .str z, by simp, Nat.le_trans (fl_str (K := K) (H := H) h l).l (by decide), by simp⟩
theorem odd_nil {a : Addr} (h : H a = some (.lst [])) : OddV K H (.ref a) := ⟨⟨.lst h, .inl fun b ys e hb => by cases e; rw [h] at hb; cases hb⟩, [], _, .lst0 h, by simp, by decide +kernel, by simp⟩
theorem odd_dic {a : Addr} (h : H a = some (.dK [])) : OddV K H (.ref a) := ⟨⟨.dct h, .inl fun b ys e hb => by cases e; rw [h] at hb; cases hb⟩, [a], _, .dct h .nil .nil (by simp), by simp, by decide +kernel, fun b hb => by obtain rfl := List.mem_singleton.mp hb; rw [h]; simp⟩
theorem not3 {a : Addr} {ys : List V} (h : H a = some (.tup ys)) (n : ys.length ≠ 3) : NotE K H (.ref a) := ⟨.tup h, .inl fun b zs e hb => by cases e; rw [h] at hb; cases hb; exact n⟩
theorem odd_l3 {a : Addr} {x y z : V} {tx ty tz : Str} (h : H a = some (.lst [x, y, z])) (fx : Fl K H x tx) (fy : Fl K H y ty) (fz : Fl K H z tz) : OddV K H (.ref a) := by
  refine ⟨⟨.lst h, .inl fun b ys e hb => by cases e; rw [h] at hb; cases hb⟩, [a], listText [tx, ty, tz], .lst h (.cons fx.sw (.cons fy.sw (.cons fz.sw .nil))) (by simp), by simp, ?_, fun b hb => ?_⟩
  · have l1 := fx.l
    have l2 := fy.l
    have l3 := fz.l
    refine Nat.le_trans (listText_len_le _) ?_
    simp only [List.map_cons, List.map_nil, List.sum_cons, List.sum_nil, List.length_cons, List.length_nil]
    omega
  · obtain rfl := List.mem_singleton.mp hb
    rw [h]; simp
theorem odd_ddd {a b c d : Addr} (ha : H a = some (.tup [.ref b, .ref c, .ref d])) (hb : H b = some (.dK [])) (hc : H c = some (.dK [])) (hd : H d = some (.dK [])) : OddV K H (.ref a) := by
  have sd : ∀ {x : Addr}, H x = some (.dK []) → Rp.Sw K H [x] (.ref x) (dictText []) := fun h => .dct h .nil .nil (by simp)
  have ne : ∀ {x : Addr}, H x = some (.dK []) → x ≠ a := fun h z => by subst z; rw [ha] at h; cases h
  refine ⟨⟨.tup ha, .inr ⟨a, _, _, _, rfl, ha, .dct hb, .dct hc, .dct hd, rfl⟩⟩, [a, b, c, d], _, .tup ha (.cons (sd hb) (.cons (sd hc) (.cons (sd hd) .nil))) ?_, by simp, by decide +kernel, fun x hx => ?_⟩
  · intro m
    simp only [List.append_nil, List.cons_append, List.nil_append, List.mem_cons, List.not_mem_nil, or_false] at m
    rcases m with m | m | m
    · exact ne hb m.symm
    · exact ne hc m.symm
    · exact ne hd m.symm
  · simp only [List.mem_cons, List.not_mem_nil, or_false] at hx
    rcases hx with rfl | rfl | rfl | rfl
    · rw [ha]; simp
    · rw [hb]; simp
    · rw [hc]; simp
    · rw [hd]; simp
/-- ('a',) within a tuple -/
theorem odd_in {a b : Addr} {x y : V} {tx ty : Str} (ha : H a = some (.tup [x, y, .ref b])) (hb : H b = some (.tup [.str "a"])) (ne : a ≠ b) (fx : Fl K H x tx) (fy : Fl K H y ty) : OddV K H (.ref a) := by
  have sb : Rp.Sw K H [b] (.ref b) (tupleText [reprText "a"]) := .tup hb (.cons (.str _) .nil) (by simp)
  refine ⟨⟨.tup ha, .inr ⟨a, _, _, _, rfl, ha, fx.it, fy.it, .tup hb, nab (.inr (.inr rfl))⟩⟩, [a, b], tupleText [tx, ty, tupleText [reprText "a"]], .tup ha (.cons fx.sw (.cons fy.sw (.cons sb .nil))) ?_, by simp, ?_, fun x hx => ?_⟩
  · simp; exact ne
  · have l1 := fx.l
    have l2 := fy.l
    have l3 : (tupleText [reprText "a"]).length ≤ 100 := by decide +kernel
    have z := PySem.tupleText_len_le [tx, ty, tupleText [reprText "a"]]
    simp only [List.map_cons, List.map_nil, List.sum_cons, List.sum_nil, List.length_cons, List.length_nil] at z
    omega
  · simp only [List.mem_cons, List.not_mem_nil, or_false] at hx
    rcases hx with rfl | rfl
    · rw [ha]; simp
    · rw [hb]; simp

/-- what is new since H -/
def new (H G : Hp) : Hp := fun b => match H b with
  | none => G b
  | some _ => none
theorem new_of {G G' : Hp} {a : Addr} {o : HO} (s : L2.Same H G) (n : G a = none) (h : G' a = some o) : new H G' a = some o := by
  unfold new
  rw [s.free n]
  exact h
theorem new_same {G G' : Hp} (s : L2.Same G G') : L2.Same (new H G) (new H G') := fun b o e => by
  unfold new at *
  cases q : H b with
  | none => rw [q] at e; exact s _ _ e
  | some u => rw [q] at e; cases e
theorem new_sub {G : Hp} (s : L2.Same H G) : L2.Same (new H G) G := fun b o e => by
  unfold new at e
  cases q : H b with
  | none => rw [q] at e; exact e
  | some u => rw [q] at e; cases e
theorem new_none {G : Hp} {b : Addr} (h : H b ≠ none) : new H G b = none := by
  unfold new
  cases q : H b with
  | none => exact absurd q h
  | some u => rfl
def spOdd (K : PySem.W.Frag) : Sp := fun vs H Q _ => ∃ p x e, vs = [.ref p, x] ∧ H p = some (PotO p) ∧ EntT H x e ∧ LawE e ∧ ∀ y H' N, L2.Same H H' → L2.Same N H' → (∀ b, H b ≠ none → N b = none) → OddV K N y → Q y H'
theorem d_odd (T : Txt K mg) : Df P w K mg base 3 "_law_odd" ["_law_pot_here", "_law_part"] (spOdd K) := by
  have D_l_among := d_among (P := P) (w := w) (base := base) T
  refine T.S_l_odd.by sc_l_odd (fun vs H Q E h => ?_) (fun f cdv A outer s H vs Q E hr hgd h => ?_)
  · obtain ⟨p, x, e, rfl, _⟩ := h; rfl
  · obtain ⟨p, x, e, rfl, hp, ⟨t, rfl, ht⟩, he, k⟩ := h
    have fT8 : ∀ {G : Hp}, Fl K G (.str (e.2.2 ++ "aaaaaaaa")) (reprText (e.2.2 ++ "aaaaaaaa")) := fun {G} => by
      refine fl_str (fun c hc => ?_) ?_
      · have e1 : (e.2.2 ++ ("aaaaaaaa" : Str)).cps.toList = e.2.2.cps.toList ++ ("aaaaaaaa" : Str).cps.toList := by show (e.2.2.cps ++ _).toList = _; simp
        rw [e1] at hc
        rcases List.mem_append.mp hc with hc | hc
        · exact name_small he.n.name c hc
        · have : ∀ x ∈ ("aaaaaaaa" : Str).cps.toList, x < 16 ^ 8 := by decide +kernel
          exact this c hc
      · have := he.n.len
        rw [strLen_append]
        have e8 : ("aaaaaaaa" : Str).length = 8 := by decide +kernel
        omega
    have nT8 : nB (.str (e.2.2 ++ "aaaaaaaa")) = false := by
      show nameB _ = false
      unfold nameB
      have h1 : 1 ≤ e.2.2.length := by have z := he.n.1; rw [Array.length_toList] at z; exact z
      have e8 : ("aaaaaaaa" : Str).length = 8 := by decide +kernel
      rw [decide_eq_false (show ¬ (((e.2.2 ++ ("aaaaaaaa" : Str)).length : Nat) : Int) ≤ 8 by rw [strLen_append]; omega), Bool.and_false]
      rfl
    have l8 : e.2.2.length + (Str.ofString "aaaaaaaa").length ≤ sizeLine := by
      have := he.n.len
      have e8 : (Str.ofString "aaaaaaaa").length = 8 := by decide +kernel
      exact Nat.le_trans (m := 100) (by omega) (by decide)
    refine ⟨_, (pss_cons (ps_asg (pv 1) (pg_tup rfl (pgs_cons (pg_name (i := 2) sc_l_odd.nd rfl (by first | exact Or.inl rfl | exact Or.inr rfl)) (pgs_cons (pg_name (i := 3) sc_l_odd.nd rfl (by first | exact Or.inl rfl | exact Or.inr rfl)) (pgs_cons (pg_name (i := 4) sc_l_odd.nd rfl (by first | exact Or.inl rfl | exact Or.inr rfl)) pgs_nil)))))
      (pss_cons (ps_set (i := 5) sc_l_odd.nd rfl (by first | exact Or.inl rfl | exact Or.inr rfl) (pe_lst (pa_cons pe_non (pa_cons pe_int (pa_cons pe_str (pa_cons (pe_lst pa_nil) (pa_cons pe_dnewK (pa_cons (pe_tup pa_nil) (pa_cons (pe_tup (pa_cons (pv 2) (pa_cons (pv 3) pa_nil))) (pa_cons (pe_tup (pa_cons (pv 2) (pa_cons (pv 3) (pa_cons (pv 4) (pa_cons pe_int pa_nil))))) (pa_cons (pe_lst (pa_cons (pv 2) (pa_cons (pv 3) (pa_cons (pv 4) pa_nil)))) (pa_cons (pe_tup (pa_cons pe_int (pa_cons (pv 3) (pa_cons (pv 4) pa_nil)))) pa_nil))))))))))))
      (pss_cons (ps_set (i := 5) sc_l_odd.nd rfl (by first | exact Or.inl rfl | exact Or.inr rfl) (pe_op op_cat (pv 5) (pe_lst (pa_cons (pe_tup (pa_cons (pe_un un_neg pe_int) (pa_cons (pv 3) (pa_cons (pv 4) pa_nil)))) (pa_cons (pe_tup (pa_cons (pv 2) (pa_cons pe_int (pa_cons (pv 4) pa_nil)))) (pa_cons (pe_tup (pa_cons (pv 2) (pa_cons (pe_un un_neg pe_int) (pa_cons (pv 4) pa_nil)))) (pa_cons (pe_tup (pa_cons (pv 2) (pa_cons (pv 3) (pa_cons (pe_op op_add_str (pv 4) pe_str) pa_nil)))) pa_nil)))))))
      (pss_cons (ps_set (i := 5) sc_l_odd.nd rfl (by first | exact Or.inl rfl | exact Or.inr rfl) (pe_op op_cat (pv 5) (pe_lst (pa_cons (pe_tup (pa_cons (pv 2) (pa_cons (pv 3) (pa_cons pe_str pa_nil)))) (pa_cons (pe_tup (pa_cons (pv 2) (pa_cons (pv 3) (pa_cons pe_str pa_nil)))) (pa_cons (pe_tup (pa_cons (pv 2) (pa_cons (pv 3) (pa_cons pe_non pa_nil)))) (pa_cons (pe_tup (pa_cons (pv 4) (pa_cons (pv 3) (pa_cons (pv 2) pa_nil)))) (pa_cons (pe_tup (pa_cons pe_bl (pa_cons (pv 3) (pa_cons (pv 4) pa_nil)))) pa_nil))))))))
      (pss_cons (ps_expr (pe_bm PySem.F.plainAttrs_list PySem.F.slot_list_append PySem.F.type_list_append mt_append (pv 5) (pa_cons (pe_tup (pa_cons (pv 2) (pa_cons pe_bl (pa_cons (pv 4) pa_nil)))) pa_nil)))
      (pss_cons (ps_set (i := 5) sc_l_odd.nd rfl (by first | exact Or.inl rfl | exact Or.inr rfl) (pe_op op_cat (pv 5) (pe_lst (pa_cons (pe_tup (pa_cons (pv 2) (pa_cons (pv 3) (pa_cons (pe_tup (pa_cons pe_str pa_nil)) pa_nil)))) (pa_cons (pe_tup (pa_cons pe_non (pa_cons (pv 3) (pa_cons (pv 4) pa_nil)))) (pa_cons (pe_tup (pa_cons (pv 2) (pa_cons (pe_lst pa_nil) (pa_cons (pv 4) pa_nil)))) (pa_cons (pe_tup (pa_cons (pe_op op_pow pe_int pe_int) (pa_cons (pv 3) (pa_cons (pv 4) pa_nil)))) (pa_cons (pe_tup (pa_cons pe_dnewK (pa_cons pe_dnewK (pa_cons pe_dnewK pa_nil)))) pa_nil))))))))
      (pss_one (ps_ret (pe_own D_l_among (hr.mono (by first | decide | omega)) hgd (pa_cons (pv 0) (pa_cons (pv 5) pa_nil))))))))))), ?_⟩
    refine ⟨_, rfl, t, _, rfl, SqT.of ht, rfl, ?_⟩
    have S0 := Same.refl H
    have A : AllO K (new H H) [] := fun v hv => by cases hv
    have A := A.more (y := .non) (odd_non)
    have A := A.more (y := .int 0) (odd_int 0 (by decide) (by decide))
    have A := A.more (y := .str "") (odd_str (by decide +kernel) (by decide +kernel))
    walk_at "rd"
    intro a1 n1
    obtain ⟨G1, q1, s1, h1⟩ := laid (o := .lst []) n1
    rw [q1]
    have S1 := S0.trans s1
    have m1 := new_of S0 n1 h1
    have t1 := new_same (H := H) s1
    have A := A.same t1
    have A := A.more (y := .ref a1) (odd_nil m1)
    walk_at "rd"
    intro a2 n2
    obtain ⟨G2, q2, s2, h2⟩ := laid (o := .dK []) n2
    rw [q2]
    have S2 := S1.trans s2
    have m2 := new_of S1 n2 h2
    have t2 := new_same (H := H) s2
    have A := A.same t2
    have A := A.more (y := .ref a2) (odd_dic m2)
    walk_at "rd"
    intro a3 n3
    obtain ⟨G3, q3, s3, h3⟩ := laid (o := .tup []) n3
    rw [q3]
    have S3 := S2.trans s3
    have m3 := new_of S2 n3 h3
    have t3 := new_same (H := H) s3
    have A := A.same t3
    have A := A.more (y := .ref a3) (odd_tup m3 .nil (by simp) (by simp) (not3 m3 (by simp)))
    walk_at "rd"
    intro a4 n4
    obtain ⟨G4, q4, s4, h4⟩ := laid (o := .tup [.int e.1, .int e.2.1]) n4
    rw [q4]
    have S4 := S3.trans s4
    have m4 := new_of S3 n4 h4
    have t4 := new_same (H := H) s4
    have A := A.same t4
    have A := A.more (y := .ref a4) (odd_tup (ts := [_, _]) m4 (.cons he.fa.sw (.cons he.fu.sw .nil)) (fun t ht => by simp only [List.mem_cons, List.not_mem_nil, or_false] at ht; rcases ht with rfl | rfl; exact (he.fa (K := K) (H := H)).l; exact (he.fu (K := K) (H := H)).l) (by simp) (not3 m4 (by simp)))
    walk_at "rd"
    intro a5 n5
    obtain ⟨G5, q5, s5, h5⟩ := laid (o := .tup [.int e.1, .int e.2.1, .str e.2.2, .int (0)]) n5
    rw [q5]
    have S5 := S4.trans s5
    have m5 := new_of S4 n5 h5
    have t5 := new_same (H := H) s5
    have A := A.same t5
    have A := A.more (y := .ref a5) (odd_tup (ts := [_, _, _, _]) m5 (.cons he.fa.sw (.cons he.fu.sw (.cons he.ft.sw (.cons (fl_int (i := 0) (by decide) (by decide)).sw .nil)))) (fun t ht => by simp only [List.mem_cons, List.not_mem_nil, or_false] at ht; rcases ht with rfl | rfl | rfl | rfl; exact (he.fa (K := K) (H := H)).l; exact (he.fu (K := K) (H := H)).l; exact (he.ft (K := K) (H := H)).l; exact (fl_int (K := K) (H := H) (i := 0) (by decide) (by decide)).l) (by simp) (not3 m5 (by simp)))
    walk_at "rd"
    intro a6 n6
    obtain ⟨G6, q6, s6, h6⟩ := laid (o := .lst [.int e.1, .int e.2.1, .str e.2.2]) n6
    rw [q6]
    have S6 := S5.trans s6
    have m6 := new_of S5 n6 h6
    have t6 := new_same (H := H) s6
    have A := A.same t6
    have A := A.more (y := .ref a6) (odd_l3 m6 he.fa he.fu he.ft)
    walk_at "rd"
    intro a7 n7
    obtain ⟨G7, q7, s7, h7⟩ := laid (o := .tup [.int (21), .int e.2.1, .str e.2.2]) n7
    rw [q7]
    have S7 := S6.trans s7
    have m7 := new_of S6 n7 h7
    have t7 := new_same (H := H) s7
    have A := A.same t7
    have A := A.more (y := .ref a7) (odd3 m7 (fl_int (by decide) (by decide)) he.fu he.ft (nab (.inl (by decide))))
    walk_at "rd"
    intro a8 n8
    obtain ⟨G8, q8, s8, h8⟩ := laid (o := .lst [.non, .int 0, .str "", .ref a1, .ref a2, .ref a3, .ref a4, .ref a5, .ref a6, .ref a7]) n8
    rw [q8]
    have S8 := S7.trans s8
    have m8 := new_of S7 n8 h8
    have t8 := new_same (H := H) s8
    have A := A.same t8
    walk_at "rd"
    intro a9 n9
    obtain ⟨G9, q9, s9, h9⟩ := laid (o := .tup [.int (-21), .int e.2.1, .str e.2.2]) n9
    rw [q9]
    have S9 := S8.trans s9
    have m9 := new_of S8 n9 h9
    have t9 := new_same (H := H) s9
    have A := A.same t9
    have A := A.more (y := .ref a9) (odd3 m9 (fl_int (by decide) (by decide)) he.fu he.ft (nab (.inl (by decide))))
    walk_at "rd"
    intro a10 n10
    obtain ⟨G10, q10, s10, h10⟩ := laid (o := .tup [.int e.1, .int (21), .str e.2.2]) n10
    rw [q10]
    have S10 := S9.trans s10
    have m10 := new_of S9 n10 h10
    have t10 := new_same (H := H) s10
    have A := A.same t10
    have A := A.more (y := .ref a10) (odd3 m10 he.fa (fl_int (by decide) (by decide)) he.ft (nab (.inr (.inl (by decide)))))
    walk_at "rd"
    intro a11 n11
    obtain ⟨G11, q11, s11, h11⟩ := laid (o := .tup [.int e.1, .int (-21), .str e.2.2]) n11
    rw [q11]
    have S11 := S10.trans s11
    have m11 := new_of S10 n11 h11
    have t11 := new_same (H := H) s11
    have A := A.same t11
    have A := A.more (y := .ref a11) (odd3 m11 he.fa (fl_int (by decide) (by decide)) he.ft (nab (.inr (.inl (by decide)))))
    walk_at "rd"
    intro a12 n12
    obtain ⟨G12, q12, s12, h12⟩ := laid (o := .tup [.int e.1, .int e.2.1, .str (e.2.2 ++ "aaaaaaaa")]) n12
    rw [q12]
    have S12 := S11.trans s12
    have m12 := new_of S11 n12 h12
    have t12 := new_same (H := H) s12
    have A := A.same t12
    have A := A.more (y := .ref a12) (odd3 m12 he.fa he.fu fT8 (nab (.inr (.inr nT8))))
    walk_at "rd"
    intro a13 n13
    obtain ⟨G13, q13, s13, h13⟩ := laid (o := .lst [.ref a9, .ref a10, .ref a11, .ref a12]) n13
    rw [q13]
    have S13 := S12.trans s13
    have m13 := new_of S12 n13 h13
    have t13 := new_same (H := H) s13
    have A := A.same t13
    have hl : G13 a8 = some (.lst [.non, .int 0, .str "", .ref a1, .ref a2, .ref a3, .ref a4, .ref a5, .ref a6, .ref a7]) := s13 _ _ (s12 _ _ (s11 _ _ (s10 _ _ (s9 _ _ (h8)))))
    refine ⟨a8, a13, _, _, rfl, rfl, hl, h13, Nat.le_trans (m := 100) (by simp) (by decide), fun a14 n14 => ?_⟩
    obtain ⟨G14, q14, s14, h14⟩ := laid (o := .lst ([.non, .int 0, .str "", .ref a1, .ref a2, .ref a3, .ref a4, .ref a5, .ref a6, .ref a7] ++ [.ref a9, .ref a10, .ref a11, .ref a12])) n14
    rw [q14]
    have S14 := S13.trans s14
    have t14 := new_same (H := H) s14
    have A := A.same t14
    walk_at "rd"
    intro a15 n15
    obtain ⟨G15, q15, s15, h15⟩ := laid (o := .tup [.int e.1, .int e.2.1, .str ""]) n15
    rw [q15]
    have S15 := S14.trans s15
    have m15 := new_of S14 n15 h15
    have t15 := new_same (H := H) s15
    have A := A.same t15
    have A := A.more (y := .ref a15) (odd3 m15 he.fa he.fu (fl_str (by decide +kernel) (by decide +kernel)) (nab (.inr (.inr (by decide +kernel)))))
    walk_at "rd"
    intro a16 n16
    obtain ⟨G16, q16, s16, h16⟩ := laid (o := .tup [.int e.1, .int e.2.1, .str "A"]) n16
    rw [q16]
    have S16 := S15.trans s16
    have m16 := new_of S15 n16 h16
    have t16 := new_same (H := H) s16
    have A := A.same t16
    have A := A.more (y := .ref a16) (odd3 m16 he.fa he.fu (fl_str (by decide +kernel) (by decide +kernel)) (nab (.inr (.inr (by decide +kernel)))))
    walk_at "rd"
    intro a17 n17
    obtain ⟨G17, q17, s17, h17⟩ := laid (o := .tup [.int e.1, .int e.2.1, .non]) n17
    rw [q17]
    have S17 := S16.trans s17
    have m17 := new_of S16 n17 h17
    have t17 := new_same (H := H) s17
    have A := A.same t17
    have A := A.more (y := .ref a17) (odd3 m17 he.fa he.fu fl_non (nab (.inr (.inr rfl))))
    walk_at "rd"
    intro a18 n18
    obtain ⟨G18, q18, s18, h18⟩ := laid (o := .tup [.str e.2.2, .int e.2.1, .int e.1]) n18
    rw [q18]
    have S18 := S17.trans s18
    have m18 := new_of S17 n18 h18
    have t18 := new_same (H := H) s18
    have A := A.same t18
    have A := A.more (y := .ref a18) (odd3 m18 he.ft he.fu he.fa (nab (.inl rfl)))
    walk_at "rd"
    intro a19 n19
    obtain ⟨G19, q19, s19, h19⟩ := laid (o := .tup [.bl true, .int e.2.1, .str e.2.2]) n19
    rw [q19]
    have S19 := S18.trans s19
    have m19 := new_of S18 n19 h19
    have t19 := new_same (H := H) s19
    have A := A.same t19
    have A := A.more (y := .ref a19) (odd3 m19 (fl_bl true) he.fu he.ft (nab (.inl rfl)))
    walk_at "rd"
    intro a20 n20
    obtain ⟨G20, q20, s20, h20⟩ := laid (o := .lst [.ref a15, .ref a16, .ref a17, .ref a18, .ref a19]) n20
    rw [q20]
    have S20 := S19.trans s20
    have m20 := new_of S19 n20 h20
    have t20 := new_same (H := H) s20
    have A := A.same t20
    have hl : G20 a14 = some (.lst [.non, .int 0, .str "", .ref a1, .ref a2, .ref a3, .ref a4, .ref a5, .ref a6, .ref a7, .ref a9, .ref a10, .ref a11, .ref a12]) := s20 _ _ (s19 _ _ (s18 _ _ (s17 _ _ (s16 _ _ (s15 _ _ (h14))))))
    refine ⟨a14, a20, _, _, rfl, rfl, hl, h20, Nat.le_trans (m := 100) (by simp) (by decide), fun a21 n21 => ?_⟩
    obtain ⟨G21, q21, s21, h21⟩ := laid (o := .lst ([.non, .int 0, .str "", .ref a1, .ref a2, .ref a3, .ref a4, .ref a5, .ref a6, .ref a7, .ref a9, .ref a10, .ref a11, .ref a12] ++ [.ref a15, .ref a16, .ref a17, .ref a18, .ref a19])) n21
    rw [q21]
    have S21 := S20.trans s21
    have t21 := new_same (H := H) s21
    walk_at "rd"
    refine ⟨ty_lst h21, ?_⟩
    walk_at "rd"
    intro a22 n22
    obtain ⟨G22, q22, s22, h22⟩ := laid (o := .tup [.int e.1, .bl false, .str e.2.2]) n22
    rw [q22]
    have S22 := S21.trans s22
    have m22 := new_of S21 n22 h22
    have t22 := new_same (H := H) s22
    have hl : G22 a21 = some (.lst [.non, .int 0, .str "", .ref a1, .ref a2, .ref a3, .ref a4, .ref a5, .ref a6, .ref a7, .ref a9, .ref a10, .ref a11, .ref a12, .ref a15, .ref a16, .ref a17, .ref a18, .ref a19]) := s22 _ _ h21
    refine ⟨a21, _, .ref a22, rfl, rfl, hl, Nat.lt_of_le_of_lt (m := 100) (by simp) (by decide), ?_⟩
    have hp3 := Same.mut (o := .lst ([.non, .int 0, .str "", .ref a1, .ref a2, .ref a3, .ref a4, .ref a5, .ref a6, .ref a7, .ref a9, .ref a10, .ref a11, .ref a12, .ref a15, .ref a16, .ref a17, .ref a18, .ref a19] ++ [.ref a22])) (s21.trans s22) n21
    obtain ⟨GM, qM, sM, hM, hT⟩ : ∃ GM, upd G22 a21 (.lst ([.non, .int 0, .str "", .ref a1, .ref a2, .ref a3, .ref a4, .ref a5, .ref a6, .ref a7, .ref a9, .ref a10, .ref a11, .ref a12, .ref a15, .ref a16, .ref a17, .ref a18, .ref a19] ++ [.ref a22])) = GM ∧ L2.Same G20 GM ∧ GM a21 = some (.lst ([.non, .int 0, .str "", .ref a1, .ref a2, .ref a3, .ref a4, .ref a5, .ref a6, .ref a7, .ref a9, .ref a10, .ref a11, .ref a12, .ref a15, .ref a16, .ref a17, .ref a18, .ref a19] ++ [.ref a22])) ∧ GM a22 = some (.tup [.int e.1, .bl false, .str e.2.2]) := ⟨_, rfl, hp3, upd_same, (upd_ne (fun z => by subst z; rw [h21] at n22; cases n22)).trans h22⟩
    rw [qM]
    have SM := S20.trans sM
    have tM := new_same (H := H) sM
    have mT := new_of S21 n22 hT
    have A := A.same tM
    have A := A.more (y := .ref a22) (odd3 mT he.fa (fl_bl false) he.ft (nab (.inr (.inl rfl))))
    walk_at "rd"
    intro a23 n23
    obtain ⟨G23, q23, s23, h23⟩ := laid (o := .tup [.str "a"]) n23
    rw [q23]
    have S23 := SM.trans s23
    have m23 := new_of SM n23 h23
    have t23 := new_same (H := H) s23
    have A := A.same t23
    walk_at "rd"
    intro a24 n24
    obtain ⟨G24, q24, s24, h24⟩ := laid (o := .tup [.int e.1, .int e.2.1, .ref a23]) n24
    rw [q24]
    have S24 := S23.trans s24
    have m24 := new_of S23 n24 h24
    have t24 := new_same (H := H) s24
    have A := A.same t24
    have A := A.more (y := .ref a24) (odd_in m24 (t24 _ _ m23) (fun z => by subst z; rw [h23] at n24; cases n24) he.fa he.fu)
    walk_at "rd"
    intro a25 n25
    obtain ⟨G25, q25, s25, h25⟩ := laid (o := .tup [.non, .int e.2.1, .str e.2.2]) n25
    rw [q25]
    have S25 := S24.trans s25
    have m25 := new_of S24 n25 h25
    have t25 := new_same (H := H) s25
    have A := A.same t25
    have A := A.more (y := .ref a25) (odd3 m25 fl_non he.fu he.ft (nab (.inl rfl)))
    walk_at "rd"
    intro a26 n26
    obtain ⟨G26, q26, s26, h26⟩ := laid (o := .lst []) n26
    rw [q26]
    have S26 := S25.trans s26
    have m26 := new_of S25 n26 h26
    have t26 := new_same (H := H) s26
    have A := A.same t26
    walk_at "rd"
    intro a27 n27
    obtain ⟨G27, q27, s27, h27⟩ := laid (o := .tup [.int e.1, .ref a26, .str e.2.2]) n27
    rw [q27]
    have S27 := S26.trans s27
    have m27 := new_of S26 n27 h27
    have t27 := new_same (H := H) s27
    have A := A.same t27
    have A := A.more (y := .ref a27) (odd3 m27 he.fa (fl_nil (t27 _ _ m26)) he.ft (nab (.inr (.inl rfl))))
    walk_at "rd"
    intro a28 n28
    obtain ⟨G28, q28, s28, h28⟩ := laid (o := .tup [(fun (i j : Int) => V.int (i ^ j.toNat)) 10 30, .int e.2.1, .str e.2.2]) n28
    rw [q28]
    have S28 := S27.trans s28
    have m28 := new_of S27 n28 h28
    have t28 := new_same (H := H) s28
    have m28 : new H G28 a28 = some (.tup [.int (10 ^ 30), .int e.2.1, .str e.2.2]) := m28
    have A := A.same t28
    have A := A.more (y := .ref a28) (odd3 m28 fl_big he.fu he.ft (nab (.inl (by decide))))
    walk_at "rd"
    intro a29 n29
    obtain ⟨G29, q29, s29, h29⟩ := laid (o := .dK []) n29
    rw [q29]
    have S29 := S28.trans s29
    have m29 := new_of S28 n29 h29
    have t29 := new_same (H := H) s29
    have A := A.same t29
    walk_at "rd"
    intro a30 n30
    obtain ⟨G30, q30, s30, h30⟩ := laid (o := .dK []) n30
    rw [q30]
    have S30 := S29.trans s30
    have m30 := new_of S29 n30 h30
    have t30 := new_same (H := H) s30
    have A := A.same t30
    walk_at "rd"
    intro a31 n31
    obtain ⟨G31, q31, s31, h31⟩ := laid (o := .dK []) n31
    rw [q31]
    have S31 := S30.trans s31
    have m31 := new_of S30 n31 h31
    have t31 := new_same (H := H) s31
    have A := A.same t31
    walk_at "rd"
    intro a32 n32
    obtain ⟨G32, q32, s32, h32⟩ := laid (o := .tup [.ref a29, .ref a30, .ref a31]) n32
    rw [q32]
    have S32 := S31.trans s32
    have m32 := new_of S31 n32 h32
    have t32 := new_same (H := H) s32
    have A := A.same t32
    have A := A.more (y := .ref a32) (odd_ddd m32 (t32 _ _ (t31 _ _ (t30 _ _ m29))) (t32 _ _ (t31 _ _ m30)) (t32 _ _ m31))
    walk_at "rd"
    intro a33 n33
    obtain ⟨G33, q33, s33, h33⟩ := laid (o := .lst [.ref a24, .ref a25, .ref a27, .ref a28, .ref a32]) n33
    rw [q33]
    have S33 := S32.trans s33
    have m33 := new_of S32 n33 h33
    have t33 := new_same (H := H) s33
    have A := A.same t33
    have hl : G33 a21 = some (.lst ([.non, .int 0, .str "", .ref a1, .ref a2, .ref a3, .ref a4, .ref a5, .ref a6, .ref a7, .ref a9, .ref a10, .ref a11, .ref a12, .ref a15, .ref a16, .ref a17, .ref a18, .ref a19] ++ [.ref a22])) := s33 _ _ (s32 _ _ (s31 _ _ (s30 _ _ (s29 _ _ (s28 _ _ (s27 _ _ (s26 _ _ (s25 _ _ (s24 _ _ (s23 _ _ (hM)))))))))))
    refine ⟨a21, a33, _, _, rfl, rfl, hl, h33, Nat.le_trans (m := 100) (by simp) (by decide), fun a34 n34 => ?_⟩
    obtain ⟨G34, q34, s34, h34⟩ := laid (o := .lst (([.non, .int 0, .str "", .ref a1, .ref a2, .ref a3, .ref a4, .ref a5, .ref a6, .ref a7, .ref a9, .ref a10, .ref a11, .ref a12, .ref a15, .ref a16, .ref a17, .ref a18, .ref a19] ++ [.ref a22]) ++ [.ref a24, .ref a25, .ref a27, .ref a28, .ref a32])) n34
    rw [q34]
    have S34 := S33.trans s34
    have t34 := new_same (H := H) s34
    have A := A.same t34
    have A2 : AllO K (new H G34) (([.non, .int 0, .str "", .ref a1, .ref a2, .ref a3, .ref a4, .ref a5, .ref a6, .ref a7, .ref a9, .ref a10, .ref a11, .ref a12, .ref a15, .ref a16, .ref a17, .ref a18, .ref a19] ++ [.ref a22]) ++ [.ref a24, .ref a25, .ref a27, .ref a28, .ref a32]) := by simpa only [List.nil_append, List.cons_append, List.append_assoc] using A
    have sAll := S34
    refine ⟨_, rfl, _, rfl, p, a34, _, rfl, sAll _ _ hp, SqL.of h34, by simp only [List.length_append, List.length_cons, List.length_nil]; omega, by simp only [List.length_append, List.length_cons, List.length_nil]; omega, fun y H9 hy s9 => k y H9 _ (sAll.trans s9) ((new_sub sAll).trans s9) (fun b hb => new_none hb) (A2 y hy)⟩
end
end K13

set_option Elab.async false
set_option linter.all false
set_option maxRecDepth 100000
set_option maxHeartbeats 4000000
namespace Rx
open PySem L2 Lay PySem.Spec PyProof.Rows LamX
/-- around a lambda's body: its wish -/
theorem takesL {X : Cx} {A : Around} {outer : List Env} {s : Shared} {H : Hp} {E : XK} {scope : Scope} {f c' : Addr} : Takes (lamCx X A outer s H E scope f c') (fun cls d _ H' => E cls d H') := takes_of rfl rfl rfl rfl
end Rx
namespace K13
open PySem L2 Lay Own SrtO LamX
local macro_rules | `(tactic| walk_at "ne") => `(tactic| first | assumption | (apply Ne.symm; assumption) | exact ne_of_none (by walk_at "look") (by assumption) | exact (ne_of_none (by walk_at "look") (by assumption)).symm)
local macro_rules | `(tactic| walk_at "look") => `(tactic| first | assumption | exact upd_same | (refine Eq.trans (upd_ne ?_) ?_; walk_at "ne"; walk_at "look"))
local macro_rules | `(tactic| walk_at "rds") => `(tactic| first | rfl | assumption | walk_at "look" | exact SqL.of (by walk_at "look") | exact SqT.of (by walk_at "look") | exact Or.inl (SqL.of (by walk_at "look")) | exact Or.inl (by assumption) | decide | omega | exact Nat.le_of_ble_eq_true rfl | exact Or.inr ⟨by decide, by decide⟩ | exact Or.inl ⟨by omega, by omega⟩ | exact ⟨by decide, by decide⟩)
local macro_rules | `(tactic| walk_at "rd1") => `(tactic| first | (apply Exists.intro) | (refine And.intro ?_ ?_; walk_at "rds") | (refine Or.inl ?_; apply Exists.intro; refine And.intro ?_ ?_; rfl))
local macro_rules | `(tactic| walk_at "rd") => `(tactic| repeat walk_at "rd1")
/-! ### defs that make lambdas: their code objects, their tables -/
def SrcT (K : PySem.W.Frag) (mg : Str → Option Value) (base : Heap) (x : Str) (st : Stmt) (ps : List Str) (c P : Addr) : Prop := ∃ f fd, Fun K x x st f fd ∧ mg x = some (.ref f) ∧ Binds K fd ps [] ∧ Kw1 fd ps ∧ fd.code = .ref c ∧ TabB base mg c P
def lq (x : Str) : Str := x ++ ".<locals>." ++ "<lambda>"
structure Tbs where
  c1 : Addr
  P1 : Addr
  c2 : Addr
  P2 : Addr
  c3 : Addr
  P3 : Addr
def Tbs.l (t : Tbs) : List (Addr × Str) := [(t.P1, lq "_law_both_right"), (t.P2, lq "_law_few_right"), (t.P3, lq "_law_right")]
structure TxT (K : PySem.W.Frag) (mg : Str → Option Value) (base : Heap) (t : Tbs) : Prop where
  T : Txt K mg
  b : SrcT K mg base "_law_both_right" s_l_both_right ["_law_some", "_law_due"] t.c1 t.P1
  f : SrcT K mg base "_law_few_right" s_l_few_right ["_law_some"] t.c2 t.P2
  r : SrcT K mg base "_law_right" s_l_right ["_law_pot_here"] t.c3 t.P3
  d12 : t.P1 ≠ t.P2
  d13 : t.P1 ≠ t.P3
  d23 : t.P2 ≠ t.P3
section
variable {P : Program} {w : World} {K : PySem.W.Frag} {mg : Str → Option Value} {base : Heap} {x : Str} {st : Stmt} {ps N : List Str} {c Pt : Addr} {k : Nat} {sp : Sp} {t : Tbs}
theorem TxT.u1 (T : TxT K mg base t) : ∀ p ∈ t.l, p.1 = t.P1 → p.2 = lq "_law_both_right" := by
  intro p hp e
  simp only [Tbs.l, List.mem_cons, List.not_mem_nil, or_false] at hp
  rcases hp with rfl | rfl | rfl
  · rfl
  · exact absurd e.symm T.d12
  · exact absurd e.symm T.d13
theorem TxT.u2 (T : TxT K mg base t) : ∀ p ∈ t.l, p.1 = t.P2 → p.2 = lq "_law_few_right" := by
  intro p hp e
  simp only [Tbs.l, List.mem_cons, List.not_mem_nil, or_false] at hp
  rcases hp with rfl | rfl | rfl
  · exact absurd e T.d12
  · rfl
  · exact absurd e.symm T.d23
theorem TxT.u3 (T : TxT K mg base t) : ∀ p ∈ t.l, p.1 = t.P3 → p.2 = lq "_law_right" := by
  intro p hp e
  simp only [Tbs.l, List.mem_cons, List.not_mem_nil, or_false] at hp
  rcases hp with rfl | rfl | rfl
  · exact absurd e T.d13
  · exact absurd e T.d23
  · rfl
theorem SrcT.by (S : SrcT K mg base x st ps c Pt) (sc : FnScope N ps (defScope st)) (len : ∀ vs H Q E, sp vs H Q E → vs.length = ps.length)
    (hbody : TabB base mg c Pt → ∀ (f : Addr) (A : Around) (outer : List Env) (s : Shared) (H : Hp) (vs : List V) (Q : VK) (E : XK),
      Room k (A.deeper (PyProof.Rows.envOfC x (defScope st) s.heap.objs.size f (.ref c))) → A.guards = some [] → sp vs H Q E →
      ∃ t, PSs (cxOf CX0 P w K mg base N x (defScope st) f (.ref c) A outer s H E).nox (defBody st) t ∧ t { nx := fun _ H' => Q .non H', rt := Q } (start N vs) H) : Df P w K mg base (k + 1) x ps sp := by
  obtain ⟨f, fd, F, g, b1, b2, ec, tb⟩ := S
  obtain ⟨oc, od, kV, doc, pm, an, cdv, ct, osl, rfl, lk, hcd⟩ := F.ex
  obtain rfl : cdv = .ref c := ec
  refine ⟨f, _, fnG_of lk hcd sc len fun A outer s H vs Q E hr hg hsp => ?_, g, F.kp, b1, b2⟩
  obtain ⟨t, h, q⟩ := hbody tb f A outer s H vs Q E hr hg hsp
  exact ⟨t, h.nox, q⟩
end
/-- _law_heard(lambda: body) -/
theorem pe_heard {X : Cx} {Tl : List (Addr × Str)} {c P : Addr} {k : Nat} {params : Arguments} {body : Expr} {scope : Scope} {t : XK → TE} {p lpos pos : Pos} (T : Txt X.K X.mg) (hgA : X.A.guards = some []) (TB : TabB X.base X.mg c P) (hcode : X.env.code = .ref c)
    (hmT : (P, X.env.qual ++ "<lambda>") ∈ Tl) (hu : ∀ p ∈ Tl, p.1 = P → p.2 = X.env.qual ++ "<lambda>") (hr : Room (k + 2) X.A) (L : LamS X.env.scope scope) (hdef : defaultsOf params X.env = ([], []))
    (hbind : ∀ (q : Str) (cl : List (Str × Addr)) (pm cv ctv : Value), bindArgs (PySem.W.kla_fn "<lambda>" q params body scope cl pm cv ctv) ⟨[], []⟩ = pure [])
    (walk : ∀ (A : Around) (outer : List Env) (s : Shared) (H : Hp) (E : XK) (f c' : Addr), Room k (A.deeper (lamEnv X scope s.heap.objs.size f c')) → A.guards = some [] → PE (lamCx X A outer s H E scope f c') body (t E))
    (hg : Gl X "_law_heard" := by rfl) : PE X (.Call (.Name "_law_heard" p) [.Lambda params body scope lpos] [] pos) (tLam Tl (TTh X.K) t) := by
  obtain ⟨g, fd, F, gm, b1, b2⟩ := T.S_l_heard
  obtain ⟨oc, od, kV, doc, pm, an, cdv, ct, osl, rfl, lk, hcd⟩ := F.ex
  exact Rx.pe_lamG (a := "_law_call") hgA gm F.kp lk hcd b1 sc_l_heard rfl (.inl rfl) (heard_gives T) TB hcode hmT hu hr L hdef hbind walk hg
/-! ### what a table's growth leaves -/
section
variable {K : PySem.W.Frag} {H H' : Hp}
theorem EntT.ext {x : V} {e : Ent} (h : EntT H x e) (s : ExtN H H') : EntT H' x e := by
  obtain ⟨t, rfl, ht⟩ := h
  exact ⟨t, rfl, s _ _ ht fun ps z => by cases z⟩
theorem EL.ext {xs : List V} {es : List Ent} (h : EL H xs es) (s : ExtN H H') : EL H' xs es := by
  induction h with
  | nil => exact .nil
  | cons h _ ih => exact .cons (EntT.ext h s) ih
theorem It.ext {x : V} (h : It K H x) (s : ExtN H H') : It K H' x := by
  cases h with
  | int i => exact .int i
  | str z h => exact .str z h
  | non => exact .non
  | bl b => exact .bl b
  | lst h => exact .lst (s _ _ h fun ps z => by cases z)
  | tup h => exact .tup (s _ _ h fun ps z => by cases z)
  | dct h => exact .dct (s _ _ h fun ps z => by cases z)
  | own h => exact .own (s _ _ h fun ps z => by cases z)
theorem NotE.ext {x : V} (h : NotE K H x) (s : ExtN H H') : NotE K H' x := by
  obtain ⟨i, h⟩ := h
  refine ⟨It.ext i s, ?_⟩
  rcases h with h | ⟨a, x1, x2, x3, e, ha, i1, i2, i3, q⟩
  · refine .inl fun a ys e ha' => ?_
    subst e
    cases i with
    | lst z => rw [s _ _ z fun ps z => by cases z] at ha'; cases ha'
    | tup z =>
      rw [s _ _ z fun ps z => by cases z] at ha'
      cases ha'
      exact h a _ rfl z
    | dct z => rw [s _ _ z fun ps z => by cases z] at ha'; cases ha'
    | own z => rw [s _ _ z fun ps z => by cases z] at ha'; cases ha'
  · exact .inr ⟨a, x1, x2, x3, e, s _ _ ha (fun ps z => by cases z), It.ext i1 s, It.ext i2 s, It.ext i3 s, q⟩
theorem Ls.ext {xs : List V} {oc : Oc} (h : Ls K H xs oc) (s : ExtN H H') : Ls K H' xs oc := by
  cases h with
  | few h => exact .few h
  | bad l0 l1 el ok nd hx b =>
    refine .bad l0 l1 (EL.ext el s) ok nd hx ?_
    rcases b with b | ⟨e, b, r⟩
    · exact .inl (NotE.ext b s)
    · exact .inr ⟨e, EntT.ext b s, r⟩
  | across el ok h => exact .across (EL.ext el s) ok h
  | up el ok h => exact .up (EL.ext el s) ok h
  | good el ok h => exact .good (EL.ext el s) ok h
mutual
theorem Sw_ext (s : ExtN H H') : ∀ {as : List Addr} {x : V} {t : Str}, Rp.Sw K H as x t → Rp.Sw K H' as x t
  | _, _, _, .non => .non
  | _, _, _, .bl b => .bl b
  | _, _, _, .int i h => .int i h
  | _, _, _, .str z => .str z
  | _, _, _, .lst0 h => .lst0 (s _ _ h fun ps z => by cases z)
  | _, _, _, .lst h l n => .lst (s _ _ h fun ps z => by cases z) (SwL_ext s l) n
  | _, _, _, .tup h l n => .tup (s _ _ h fun ps z => by cases z) (SwL_ext s l) n
  | _, _, _, .dct h l1 l n => .dct (s _ _ h fun ps z => by cases z) (SwL_ext s l1) (SwL_ext s l) n
  | _, _, _, .exc d h hd ht R l n hl => .exc d (s _ _ h fun ps z => by cases z) (s _ _ hd fun ps z => by cases z) (s _ _ ht fun ps z => by cases z) R (SwL_ext s l) n hl
theorem SwL_ext (s : ExtN H H') : ∀ {as : List Addr} {xs : List V} {ts : List Str}, Rp.SwL K H as xs ts → Rp.SwL K H' as xs ts
  | _, _, _, .nil => .nil
  | _, _, _, .cons h l => .cons (Sw_ext s h) (SwL_ext s l)
end
/-! ### an error heard -/
def dueL : Oc → List V
  | .ok _ => []
  | .pos p => [.str "entries", p, .bl true]
  | .many z => [.str "many", .str z, .int 3, .bl true]
def isErr : Oc → Prop
  | .ok _ => False
  | _ => True
theorem told_err {Q R : VK} {oc : Oc} (n : isErr oc) (k : ∀ l H3, L2.Same H H3 → (∀ b o, H b = some o → b ≠ l) → H3 l = some (.lst (dueL oc)) → Q (.ref l) H3) : Told K H R (wE K Q) oc := by
  refine ⟨?_, fun es x fs m1 m2 H' e => by subst e; cases n⟩
  cases oc with
  | ok es => trivial
  | pos p => exact fun d H' s hd => .inl ⟨rfl, d, p, rfl, hd, fun l H3 s3 nl hl => k l H3 (s.trans s3) (fun b o e => ne_of_none (s _ _ e) nl) hl⟩
  | many z => exact fun d H' s hd => .inr ⟨rfl, d, z, rfl, hd, fun l H3 s3 nl hl => k l H3 (s.trans s3) (fun b o e => ne_of_none (s _ _ e) nl) hl⟩
theorem lam_use {Tl : List (Addr × Str)} {t : XK → TE} {σ : L2.St} {Q : VK} {oc : Oc} (tb : Tabs Tl H) (n : isErr oc)
    (body : ∀ (E : XK) (R : VK) H2, ExtN H H2 → Told K H2 R E oc → t E σ H2 R)
    (k : ∀ l H3, ExtN H H3 → Tabs Tl H3 → (∀ b o, H b = some o → (∀ ps, o ≠ .tbl ps) → b ≠ l) → H3 l = some (.lst (dueL oc)) → Q (.ref l) H3) : tLam Tl (TTh K) t σ H Q := by
  refine ⟨tb, fun H1 eN T1 H2 R s2 hR => body _ _ H2 (eN.trans (.of s2)) (told_err n fun l H3 s3 nl hl => ?_)⟩
  exact k l H3 ((eN.trans (.of s2)).trans (.of s3)) (T1.ext fun b o e => s3 _ _ (s2 _ _ e)) (fun b o e np => nl b o (s2 _ _ (eN b o e np))) hl
end
end K13

set_option Elab.async false
set_option linter.all false
set_option maxRecDepth 100000
set_option maxHeartbeats 4000000
namespace Hd
open PySem L2 Lay He PySem.Spec PyProof.Rows
/-- an own error's class, as a test -/
def clB (K : PySem.W.Frag) (C : Addr) (newId : String) (bmB : List Value) : Bool :=
  PySem.W.excInitIn K C bmB newId && (PySem.W.excOver K C bmB && (PySem.W.hasDictIn K C && (eqO (PySem.W.findIn K (.ref C) "__setattr__") (some (some (.builtin "object.__setattr__"))) &&
  (eqO (PySem.W.findIn K (.ref C) "__getattribute__") (some (some (.builtin "BaseException.__getattribute__"))) && (eqO (PySem.W.findIn K (.ref C) "__getattr__") (some none) &&
  (decide (PySem.W.subIn K (.ref C) (.type "BaseException") = some true) && (decide (PySem.W.typeIn K (.ref C) = some (.type "type")) && (PySem.W.keepIn K (.ref C) &&
  (eqO (PySem.W.findIn K (.ref C) "__class__") (some (some (.builtin "object.__class__"))) && decide (PySem.W.mroIn K C (.type "object") = some true))))))))))
theorem cl_ok {K : PySem.W.Frag} {h : Heap} {C : Addr} {newId : String} {bmB : List Value} (X : K.In h) (c : clB K C newId bmB = true) : Exv.Cl K C newId bmB := by
  obtain ⟨c1, c⟩ := ba c
  obtain ⟨c2, c⟩ := ba c
  obtain ⟨c3, c⟩ := ba c
  obtain ⟨c4, c⟩ := ba c
  obtain ⟨c5, c⟩ := ba c
  obtain ⟨c6, c⟩ := ba c
  obtain ⟨c7, c⟩ := ba c
  obtain ⟨c8, c⟩ := ba c
  obtain ⟨c9, c⟩ := ba c
  obtain ⟨c10, c11⟩ := ba c
  refine ⟨?_, eqO_ok c4, eqO_ok c5, eqO_ok c6, of_decide_eq_true c7, of_decide_eq_true c8, c9, c3, eqO_ok c10, of_decide_eq_true c11⟩
  cases q : K.lookup C with
  | none => unfold PySem.W.excInitIn at c1; rw [q] at c1; cases c1
  | some o =>
    obtain ⟨nm, N, qn, bs, bm, hdct, sn, sub, ab, col, dd, k0, k1, k2, k3, k5, hg, _⟩ := PySem.W.excInit_of X c1
    have e := X _ _ q
    rw [hg] at e
    obtain rfl := (Option.some.inj e)
    unfold PySem.W.hasDictIn PySem.W.clsIn at c3
    unfold PySem.W.excOver PySem.W.clsIn at c2
    rw [q] at c2 c3
    have c3' : hdct = true := c3
    subst c3'
    have c2' : (C == C && PySem.W.excTail bmB bm) = true := c2
    exact ⟨nm, qn, N, bs, bm, sn, sub, ab, col, dd, k0, k1, k2, k3, k5, rfl, (ba c2').2⟩
/-! the Hook: own tests, and the defs -/
def obsF (fb : PySem.W.Frag → Bool) (fn : List DefD) (K : PySem.W.Frag) : AlD := (fb K && (obsD [] fn K).1, (obsD [] fn K).2)
def obsFG (n : Nat) (fb : PySem.W.Frag → Bool) (fn : List DefD) (g : Addr → Option Obj) : AlD := obsF fb fn (frG g (asD g n))
def hookF (n : Nat) (fb : PySem.W.Frag → Bool) (fn : List DefD) : PySem.W.Hook where
  α := AlD
  obs := fun s => obsFG n fb fn s.heap.get?
  val := fun _ => valD fn
  says := fun _ h => ∃ K : PySem.W.Frag, K.In h ∧ obsF fb fn K = valD fn
  of := fun _ _ e => ⟨_, frG_in, e⟩
  keeps := fun _ _ _ ⟨K, hK, c⟩ k => ⟨K, PySem.W.Frag.In.keeps hK k, c⟩
theorem obsFG_eq {n : Nat} {fb : PySem.W.Frag → Bool} {fn : List DefD} {g : Addr → Option Obj} {s : Shared} (h : ∀ a, g a = s.heap.get? a) : obsFG n fb fn g = (hookF n fb fn).obs s := by
  have e : g = s.heap.get? := funext h
  rw [e] <;> rfl
theorem says_fb {fb : PySem.W.Frag → Bool} {fn : List DefD} {K : PySem.W.Frag} (c : obsF fb fn K = valD fn) : fb K = true :=
  (ba (show (fb K && (obsD [] fn K).1) = true from congrArg (fun z : AlD => z.1) c)).1
theorem says_fn {fb : PySem.W.Frag → Bool} {fn : List DefD} {K : PySem.W.Frag} (c : obsF fb fn K = valD fn) : SaysD [] fn K :=
  Prod.ext (ba (show (fb K && (obsD [] fn K).1) = true from congrArg (fun z : AlD => z.1) c)).2 (show (obsF fb fn K).2 = (valD fn).2 from congrArg (fun z : AlD => z.2) c)
/-- a def of the text -/
theorem fun_of {K : PySem.W.Frag} {x qual : Str} {st : Stmt} {f : Addr} {fd : FuncData} (F : FunD K x qual (defArgs st) (defBody st) (defScope st) [] [] f fd) : Fun K x qual st f fd := by
  obtain ⟨⟨oc, od, dV, kV, doc, pm, an, cdv, ct, osl, rfl, lk, hcd, hD, hK⟩, kp⟩ := F
  rcases hD with ⟨_, rfl⟩ | ⟨e, _⟩
  · exact ⟨⟨oc, od, kV, doc, pm, an, cdv, ct, osl, rfl, lk, hcd⟩, kp⟩
  · exact absurd rfl e
theorem src_of {K : PySem.W.Frag} {mg : Str → Option Value} {x : Str} {st : Stmt} {ps : List Str} {f : Addr} {fd : FuncData} (F : Fun K x x st f fd) (g : mg x = some (.ref f))
    (h : ∀ (kV doc pm : Value) (an : Option Addr) (cdv ct : Value) (us : List Value), us.length = ps.length → bindArgs (PySem.W.fnOf x x (defArgs st) (defBody st) (defScope st) .none kV doc pm an cdv ct) ⟨us, []⟩ = pure (ps.zip us))
    (h1 : ∀ (kV doc pm : Value) (an : Option Addr) (cdv ct : Value) (p : Str) (v : Value), ps = [p] → bindArgs (PySem.W.fnOf x x (defArgs st) (defBody st) (defScope st) .none kV doc pm an cdv ct) ⟨[], [(p, v)]⟩ = pure [(p, v)]) : Src K mg x st ps := by
  refine ⟨f, fd, F, g, F.binds h, fun p v e => ?_⟩
  obtain ⟨oc, od, kV, doc, pm, an, cdv, ct, osl, rfl, lk, hcd⟩ := F.ex
  exact h1 kV doc pm an cdv ct p v e
/-- a law's end over such a head -/
theorem walk_GE {l : PySem.W.OpenLaw} {n k : Nat} {q : Program} {loose : List Str} {XP : (Str → Option Value) → Heap → Prop} {YP : World → Heap → Prop} {d : DefRec} {x : Str}
    (hn : l.most = some n) (hn2 : n ≤ sizeLine) (hdf : d.params.defaults = []) (hr : Room k callerA)
    (F : ∀ (w : World) (mg : Str → Option Value) (fa : Addr) (h : Heap), YP w h → h.Ns mainGlobals mg → mg d.name = some (.ref fa) →
      ∃ (K : PySem.W.Frag) (fd : FuncData) (sp : Sp), K.In h ∧ (∀ (s : Shared) (u : Value), BindsTo s fd ⟨[u], []⟩ [(x, u)]) ∧
        (∀ (H : Hp) (a : Addr) (ns : List Int), ns.length ≤ n → Only H → SqL K H a (ns.map V.int) → sp [.ref a] H (fun v _ => v = .bl true) fun _ _ _ => False) ∧
        ∀ base : Heap, K.In base → base.Ns mainGlobals mg → FnG l.prog w K mg base CX0 k fa fd [x] sp) :
    PySem.W.WalkO q loose XP YP l.row.toRowW d [] (fun f vs => PySem.call f vs) := by
  refine Att.attach_call hn hdf fun w s0 s1 mg mb fa o pm cd doc a vs ns G Y ho hd hcd hmg hobj hints hlen hg => ?_
  obtain ⟨K, fd, sp, KX, hb, hsp, hF⟩ := F w mg fa _ Y G.T.g hmg
  exact law_callG KX G.T.g G.T.b G.T.builtins G.T.nolimit hg hobj hints (Nat.le_trans hlen hn2) hr hF hb fun H hO hS => hsp H a ns hlen hO hS
end Hd

set_option Elab.async false
set_option linter.all false
set_option maxRecDepth 100000
set_option maxHeartbeats 4000000
namespace Ha
open PySem L2 Lay He Hd PySem.Spec PyProof.Rows
/-- one def: its address, its name, its qualified name, its statement -/
structure DefA where
  ad : PySem.W.Frag → Addr
  name : Str
  qual : Str
  st : Stmt
def fnA (K : PySem.W.Frag) (a : Addr) : FnW := match K.lookup a with
  | some ⟨_, _, .func fd, _⟩ => some (fd.name, fd.qualname, fd.params, fd.body, fd.scope, fd.globals, fd.closure, fd.builtins)
  | _ => none
def isNone : Value → Bool
  | .none => true
  | _ => false
def DefA.val (d : DefA) : FnW := some (d.name, d.qual, defArgs d.st, .stmts (defBody d.st), defScope d.st, mainGlobals, [], builtinsNs)
def DefA.ok (K : PySem.W.Frag) (d : DefA) : Bool := PySem.W.keepIn K (.ref (d.ad K)) && (match K.lookup (d.ad K) with
  | some ⟨_, _, .func fd, _⟩ => PySem.W.codeIn K fd.code d.qual && isNone fd.defaults
  | _ => false)
theorem DefA.fun {K : PySem.W.Frag} {d : DefA} (e : fnA K (d.ad K) = d.val) (c : d.ok K = true) : ∃ fd, Fun K d.name d.qual d.st (d.ad K) fd := by
  obtain ⟨kp, c2⟩ := ba c
  unfold fnA at e
  cases q : K.lookup (d.ad K) with
  | none => rw [q] at c2; cases c2
  | some o =>
    obtain ⟨oc, od, dt, osl⟩ := o
    rw [q] at c2 e
    cases dt with
    | func fd =>
      obtain ⟨n1, n2, n3, n4, n5, n6, n7, n8, n9, n10, n11, n12, n13, n14, n15⟩ := fd
      have e2 : (some (n1, n2, n3, n4, n5, n6, n7, n15) : FnW) = some (d.name, d.qual, defArgs d.st, .stmts (defBody d.st), defScope d.st, mainGlobals, [], builtinsNs) := e
      simp only [Option.some.injEq, Prod.mk.injEq] at e2
      obtain ⟨h1, h2, h3, h4, h5, h6, h7, h8⟩ := e2
      subst h1 h2 h3 h4 h5 h6 h7 h8
      obtain ⟨k1, k2⟩ := ba (show (PySem.W.codeIn K n13 d.qual && isNone n8) = true from c2)
      cases n8 with
      | none => exact ⟨_, ⟨⟨oc, od, n9, n10, n11, n12, n13, n14, osl, rfl, q, k1⟩, kp⟩⟩
      | _ => cases k2
    | _ => cases c2
abbrev AlA : Type := Bool × List FnW
def obsA (fb : PySem.W.Frag → Bool) (fn : List DefA) (K : PySem.W.Frag) : AlA := (fb K && fn.all fun d => d.ok K, fn.map fun d => fnA K (d.ad K))
def valA (fn : List DefA) : AlA := (true, fn.map DefA.val)
def asA (g : Addr → Option Obj) (n : Nat) : List Addr := PySem.cStatics :: asD g n
def obsAG (n : Nat) (fb : PySem.W.Frag → Bool) (fn : List DefA) (g : Addr → Option Obj) : AlA := obsA fb fn (frG g (asA g n))
def hookA (n : Nat) (fb : PySem.W.Frag → Bool) (fn : List DefA) : PySem.W.Hook where
  α := AlA
  obs := fun s => obsAG n fb fn s.heap.get?
  val := fun _ => valA fn
  says := fun _ h => ∃ K : PySem.W.Frag, K.In h ∧ obsA fb fn K = valA fn
  of := fun _ _ e => ⟨_, frG_in, e⟩
  keeps := fun _ _ _ ⟨K, hK, c⟩ k => ⟨K, PySem.W.Frag.In.keeps hK k, c⟩
theorem obsAG_eq {n : Nat} {fb : PySem.W.Frag → Bool} {fn : List DefA} {g : Addr → Option Obj} {s : Shared} (h : ∀ a, g a = s.heap.get? a) : obsAG n fb fn g = (hookA n fb fn).obs s := by
  have e : g = s.heap.get? := funext h
  rw [e] <;> rfl
theorem says_b {fb : PySem.W.Frag → Bool} {fn : List DefA} {K : PySem.W.Frag} (c : obsA fb fn K = valA fn) : fb K = true :=
  (ba (show (fb K && fn.all fun d => d.ok K) = true from congrArg (fun z : AlA => z.1) c)).1
theorem says_d {fb : PySem.W.Frag → Bool} {fn : List DefA} {K : PySem.W.Frag} (c : obsA fb fn K = valA fn) (i : Nat) {d : DefA} (h : fn[i]? = some d := by rfl) : ∃ fd, Fun K d.name d.qual d.st (d.ad K) fd := by
  have c2 := (ba (show (fb K && fn.all fun d => d.ok K) = true from congrArg (fun z : AlA => z.1) c)).2
  have e : fn.map (fun d => fnA K (d.ad K)) = fn.map DefA.val := congrArg (fun z : AlA => z.2) c
  have e2 : (fn.map fun d => fnA K (d.ad K))[i]? = (fn.map DefA.val)[i]? := by rw [e]
  rw [List.getElem?_map, List.getElem?_map, h] at e2
  exact DefA.fun (Option.some.inj e2) (List.all_eq_true.mp c2 d (List.mem_of_getElem? h))
/-- arguments of a def by place, one by its name -/
theorem two_of {K : PySem.W.Frag} {x qual : Str} {st : Stmt} {ps : List Str} {f : Addr} {fd : FuncData} (F : Fun K x qual st f fd)
    (h : ∀ (kV doc pm : Value) (an : Option Addr) (cdv ct : Value) (us : List Value), us.length = ps.length → bindArgs (PySem.W.fnOf x qual (defArgs st) (defBody st) (defScope st) .none kV doc pm an cdv ct) ⟨us, []⟩ = pure (ps.zip us))
    (h1 : ∀ (kV doc pm : Value) (an : Option Addr) (cdv ct : Value) (p : Str) (v : Value), ps = [p] → bindArgs (PySem.W.fnOf x qual (defArgs st) (defBody st) (defScope st) .none kV doc pm an cdv ct) ⟨[], [(p, v)]⟩ = pure [(p, v)]) : Binds K fd ps [] ∧ Kw1 fd ps := by
  refine ⟨F.binds h, fun p v e => ?_⟩
  obtain ⟨oc, od, kV, doc, pm, an, cdv, ct, osl, rfl, lk, hcd⟩ := F.ex
  exact h1 kV doc pm an cdv ct p v e
/-! tests -/
/-- the record of a static method, a property -/
def rcA (K : PySem.W.Frag) (p : Addr) (kind : String) : Addr := match PySem.W.recIn K p kind with
  | some (.ref g :: _) => g
  | _ => 0
def hdR (l : Option (List Value)) (g : Addr) : Bool := match l with
  | some (v :: _) => decide (v = .ref g)
  | _ => false
theorem hdR_ok {l : Option (List Value)} {g : Addr} (c : hdR l g = true) : ∃ rest, l = some (.ref g :: rest) := by
  cases l with
  | none => cases c
  | some l =>
    cases l with
    | nil => cases c
    | cons v r => exact ⟨r, by rw [of_decide_eq_true (show decide (v = .ref g) = true from c)]⟩
def rcB (K : PySem.W.Frag) (p : Addr) (kind : String) : Bool := hdR (PySem.W.recIn K p kind) (rcA K p kind)
theorem rc_ok {K : PySem.W.Frag} {p : Addr} {kind : String} (c : rcB K p kind = true) : ∃ rest, PySem.W.recIn K p kind = some (.ref (rcA K p kind) :: rest) := hdR_ok c
def crdB (K : PySem.W.Frag) (C : Addr) : Bool := PySem.W.readsIn K C (.type "type") && eqO (PySem.W.specialIn K (.ref C) "__getattribute__") (some (some (.builtin "type.__getattribute__")))
theorem crd_ok {K : PySem.W.Frag} {C : Addr} (c : crdB K C = true) : ClX.CRead K C (.type "type") := ⟨(ba c).1, eqO_ok (ba c).2⟩
def isGet (r : Option PySem.W.CFound) (a b c d : Value) : Bool := match r with
  | some (.get a' b' c' d') => decide (a' = a) && (decide (b' = b) && (decide (c' = c) && decide (d' = d)))
  | _ => false
theorem isGet_ok {r : Option PySem.W.CFound} {a b c d : Value} (h : isGet r a b c d = true) : r = some (.get a b c d) := by
  cases r with
  | none => cases h
  | some f =>
    cases f with
    | val v => cases h
    | get a' b' c' d' =>
      obtain ⟨h1, h⟩ := ba (show (decide (a' = a) && (decide (b' = b) && (decide (c' = c) && decide (d' = d)))) = true from h)
      obtain ⟨h2, h⟩ := ba h
      obtain ⟨h3, h4⟩ := ba h
      rw [of_decide_eq_true h1, of_decide_eq_true h2, of_decide_eq_true h3, of_decide_eq_true h4]
def isVal (r : Option PySem.W.CFound) (x : V) : Bool := match r with
  | some (.val v) => relB x v
  | _ => false
theorem isVal_ok {r : Option PySem.W.CFound} {x : V} (h : isVal r x = true) : ∃ u, r = some (.val u) ∧ RelV x u := by
  cases r with
  | none => cases h
  | some f =>
    cases f with
    | val v => exact ⟨v, rfl, relB_ok h⟩
    | get a' b' c' d' => cases h
def cstB (K : PySem.W.Frag) (C : Addr) (m : Str) : Bool := isGet (PySem.W.findCls K (.ref C) (.type "type") m) (.builtin "staticmethod.__get__") (.ref (ma K C m)) .none (.ref C) && (rcB K (ma K C m) "staticmethod" && PySem.W.keepIn K (.ref (rcA K (ma K C m) "staticmethod")))
theorem cst_ok {K : PySem.W.Frag} {C : Addr} {m : Str} (c : cstB K C m = true) :
    PySem.W.findCls K (.ref C) (.type "type") m = some (.get (.builtin "staticmethod.__get__") (.ref (ma K C m)) .none (.ref C)) ∧ (∃ rest, PySem.W.recIn K (ma K C m) "staticmethod" = some (.ref (rcA K (ma K C m) "staticmethod") :: rest)) ∧
      PySem.W.keepIn K (.ref (rcA K (ma K C m) "staticmethod")) = true := ⟨isGet_ok (ba c).1, rc_ok (ba (ba c).2).1, (ba (ba c).2).2⟩
def cviB (K : PySem.W.Frag) (C : Addr) (f : Str) (i : Int) : Bool := isVal (PySem.W.findCls K (.ref C) (.type "type") f) (.int i)
theorem cvi_ok {K : PySem.W.Frag} {C : Addr} {f : Str} {i : Int} (c : cviB K C f i = true) : ∃ u, ClX.CVal K C (.type "type") f (.int i) u := by
  obtain ⟨u, e, r⟩ := isVal_ok c
  exact ⟨u, e, r⟩
def prpB (K : PySem.W.Frag) (C : Addr) (f : Str) : Bool := eqO (PySem.W.findIn K (.ref C) f) (some (some (.ref (ma K C f)))) && (eqO (PySem.W.specialIn K (.ref (ma K C f)) "__get__") (some (some (.builtin "property.__get__"))) &&
  (decide (PySem.W.takesIn K (.ref (ma K C f)) = some true) && rcB K (ma K C f) "property"))
theorem prp_ok {K : PySem.W.Frag} {C : Addr} {f : Str} (c : prpB K C f = true) : PropOf K C f (ma K C f) (rcA K (ma K C f) "property") := by
  obtain ⟨c1, c⟩ := ba c
  obtain ⟨c2, c⟩ := ba c
  obtain ⟨c3, c4⟩ := ba c
  exact ⟨eqO_ok c1, eqO_ok c2, of_decide_eq_true c3, rc_ok c4⟩
def dunB (K : PySem.W.Frag) (C : Addr) (m : Str) : Bool := eqO (PySem.W.findIn K (.ref C) m) (some (some (.ref (ma K C m)))) && PySem.W.isFn K (.ref (ma K C m))
theorem dun_ok {K : PySem.W.Frag} {C : Addr} {m : Str} (c : dunB K C m = true) : PySem.W.findIn K (.ref C) m = some (some (.ref (ma K C m))) ∧ PySem.W.isFn K (.ref (ma K C m)) = true := ⟨eqO_ok (ba c).1, (ba c).2⟩
def ktB (K : PySem.W.Frag) (C : Addr) (ts : List String) : Bool := ts.all fun n => decide (PySem.W.kitOne K (.type n) (.ref C) = some false) && (decide (PySem.W.kitOne K (.ref C) (.type n) = some false) && PySem.W.notFirst K C (.type n))
theorem kt_ok {K : PySem.W.Frag} {C : Addr} {ts : List String} (c : ktB K C ts = true) : ∀ n ∈ ts, PySem.W.kitOne K (.type n) (.ref C) = some false ∧ PySem.W.kitOne K (.ref C) (.type n) = some false ∧ PySem.W.notFirst K C (.type n) = true := fun n hn => by
  obtain ⟨c1, c2⟩ := ba (List.all_eq_true.mp c n hn)
  obtain ⟨c2, c3⟩ := ba c2
  exact ⟨of_decide_eq_true c1, of_decide_eq_true c2, c3⟩
end Ha

set_option Elab.async false
set_option linter.all false
set_option maxRecDepth 100000
set_option maxHeartbeats 4000000
namespace Ht
open PySem L2 Lay He Hd Ha PySem.Spec PyProof.Rows LamX
/-! ### the Hook: own tests, defs by address, the tables of defs that make lambdas -/
abbrev AlB : Type := AlA × Bool
structure SaysB (fb : PySem.W.Frag → Bool) (fn : List DefA) (tf : List Defn) (h : Heap) (K : PySem.W.Frag) : Prop where
  a : obsA fb fn K = valA fn
  code : ∀ p ∈ tf, PySem.W.codeHdIn K (cT K p).1 (cT K p).2 = true
  out : ∀ p ∈ tf, K.lookup (cT K p).2 = none
  void : ∀ p ∈ tf, h.get? (cT K p).2 = some { cls := .none, data := .fields #[] }
def obsB (n : Nat) (fb : PySem.W.Frag → Bool) (fn : List DefA) (tf : List Defn) (g : Addr → Option Obj) : AlB := (obsA fb fn (frT g (asA g n)), tabsB g tf (frT g (asA g n)))
theorem saysB_of {n : Nat} {fb : PySem.W.Frag → Bool} {fn : List DefA} {tf : List Defn} {h : Heap} (e : obsB n fb fn tf h.get? = (valA fn, true)) : SaysB fb fn tf h (frT h.get? (asA h.get? n)) := by
  have e1 : obsA fb fn (frT h.get? (asA h.get? n)) = valA fn := congrArg (fun z : AlB => z.1) e
  have e2 : tabsB h.get? tf (frT h.get? (asA h.get? n)) = true := congrArg (fun z : AlB => z.2) e
  have at_ : ∀ p ∈ tf, PySem.W.codeHdIn (frT h.get? (asA h.get? n)) (cT (frT h.get? (asA h.get? n)) p).1 (cT (frT h.get? (asA h.get? n)) p).2 = true ∧ ∃ o, h.get? (cT (frT h.get? (asA h.get? n)) p).2 = some o ∧ emptyTab o = true := by
    intro p hp
    obtain ⟨c1, c2⟩ := ba (List.all_eq_true.mp e2 p hp)
    refine ⟨c1, ?_⟩
    cases q : h.get? (cT (frT h.get? (asA h.get? n)) p).2 with
    | none => rw [q] at c2; cases c2
    | some o => rw [q] at c2; exact ⟨o, rfl, c2⟩
  refine ⟨e1, fun p hp => (at_ p hp).1, fun p hp => ?_, fun p hp => ?_⟩
  · obtain ⟨_, o, q, z⟩ := at_ p hp
    exact frT_none q z
  · obtain ⟨_, o, q, z⟩ := at_ p hp
    rw [q, emptyTab_eq z]
def hookB (n : Nat) (fb : PySem.W.Frag → Bool) (fn : List DefA) (tf : List Defn) : PySem.W.Hook where
  α := AlB
  obs := fun s => obsB n fb fn tf s.heap.get?
  val := fun _ => (valA fn, true)
  says := fun _ h => ∃ K : PySem.W.Frag, K.In h ∧ SaysB fb fn tf h K
  of := fun _ _ e => ⟨_, frT_in, saysB_of e⟩
  keeps := fun _ _ _ ⟨K, hK, c⟩ k => ⟨K, PySem.W.Frag.In.keeps hK k, ⟨c.a, c.code, c.out, fun p hp => k _ _ (c.void p hp)⟩⟩
theorem obsB_eq {n : Nat} {fb : PySem.W.Frag → Bool} {fn : List DefA} {tf : List Defn} {g : Addr → Option Obj} {s : Shared} (h : ∀ a, g a = s.heap.get? a) : obsB n fb fn tf g = (hookB n fb fn tf).obs s := by
  have e : g = s.heap.get? := funext h
  rw [e] <;> rfl
/-- a def's code object -/
theorem code_at {K : PySem.W.Frag} {x qual : Str} {st : Stmt} {fd : FuncData} {p : Defn} (F : Fun K x qual st (fAd K p) fd) : fd.code = .ref (cT K p).1 := by
  obtain ⟨oc, od, kV, doc, pm, an, cdv, ct, osl, rfl, lk, hcd⟩ := F.ex
  obtain ⟨c, e⟩ := codeIn_ref hcd
  have z := codeOf_eq (p := p) lk e
  show cdv = .ref (codeOf K p)
  rw [z, e]
/-! ### the call with the script, tables empty -/
/-- what is told of the heap ahead of the call: the tables, perhaps the script -/
def Hs (ts : List Addr) (a : Addr) (z : Option HO) : Hp := fun b => if b ∈ ts then some (.tbl #[]) else if b = a then z else none
theorem hs_in {ts : List Addr} {a b : Addr} {z : Option HO} (h : b ∈ ts) : Hs ts a z b = some (.tbl #[]) := by
  unfold Hs
  rw [if_pos h]
theorem hs_out {ts : List Addr} {a b : Addr} {z : Option HO} (h : b ∉ ts) (n : b ≠ a) : Hs ts a z b = none := by
  unfold Hs
  rw [if_neg h, if_neg n]
theorem hs_at {ts : List Addr} {a : Addr} {z : Option HO} (h : a ∉ ts) : Hs ts a z a = z := by
  unfold Hs
  rw [if_neg h, if_pos rfl]
theorem call_tabs {P : Program} {w : World} {K : PySem.W.Frag} {mg mb : Str → Option Value} {k : Nat} {fa a : Addr} {ct : List (Addr × Addr)} {fd : FuncData} {x : Str} {sp : Sp} {s1 : Shared} {vs : List Value} {ns : List Int}
    (KX : K.In s1.heap) (hns : s1.heap.Ns mainGlobals mg) (hb : s1.heap.Ns builtinsNs mb) (hbb : ∀ x : Str, x ≠ "__name__" → mb x = bootBuiltins x)
    (hlim : s1.heap.NoLimit) (hg : s1.gens = #[])
    (void : ∀ p ∈ ct, s1.heap.get? p.2 = some { cls := .none, data := .fields #[] }) (out : ∀ p ∈ ct, K.lookup p.2 = none) (code : ∀ p ∈ ct, PySem.W.codeHdIn K p.1 p.2 = true)
    (hbm : ∃ (bm : Addr) (o : Obj), mg "__builtins__" = some (.ref bm) ∧ bm ≠ builtinsNs ∧ s1.heap.get? bm = some o ∧ o.cls = .type "module" ∧ o.dict = some builtinsNs ∧ o.data = .plain)
    (ha : s1.heap.get? a = some { cls := .type "list", data := .seq vs.toArray }) (hi : IntsAre vs ns)
    (hl : ns.length ≤ sizeLine) (hr : Room k callerA)
    (F : ∀ base : Heap, K.In base → base.Ns mainGlobals mg → (∀ p ∈ ct, TabB base mg p.1 p.2) → FnG P w K mg base CX0 k fa fd [x] sp)
    (hbind : ∀ (s : Shared) (u : Value), BindsTo s fd ⟨[u], []⟩ [(x, u)])
    (hsp : ∀ H : Hp, (∀ p ∈ ct, H p.2 = some (.tbl #[])) → SqL K H a (ns.map V.int) → sp [.ref a] H (fun v _ => v = .bl true) fun _ _ _ => False) :
    codeAny (model P w) callerA (.call (.ref fa) ⟨[.ref a], []⟩)
      (fun r s' => r = .ok (.ret (.bool true)) ∧ OldK s1.heap s'.heap ∧ s'.os = s1.os ∧ AllBare s'.gens) s1 := by
  obtain ⟨ts, ets⟩ : ∃ ts : List Addr, ts = ct.map (·.2) := ⟨_, rfl⟩
  have tin : ∀ p ∈ ct, p.2 ∈ ts := fun p hp => by rw [ets]; exact List.mem_map.mpr ⟨p, hp, rfl⟩
  have tof : ∀ b ∈ ts, ∃ p ∈ ct, p.2 = b := fun b hm => by rw [ets] at hm; exact List.mem_map.mp hm
  have tv : ∀ b ∈ ts, s1.heap.get? b = some { cls := .none, data := .fields #[] } := fun b hm => by
    obtain ⟨p, hp, rfl⟩ := tof b hm
    exact void p hp
  have an : a ∉ ts := fun z => by
    have q := (tv a z).symm.trans ha
    cases congrArg (fun o : Option Obj => o.map Obj.cls) q
  have rv := vals_ints hi
  have lv := hi.length
  have core : ∀ z : Option HO, (z = none ∨ (K.lookup a = none ∧ z = some (.frz { cls := .type "list", data := .seq vs.toArray } (.lst (ns.map V.int))))) → SqL K (Hs ts a z) a (ns.map V.int) →
      codeAny (model P w) callerA (.call (.ref fa) ⟨[.ref a], []⟩)
        (fun r s' => r = .ok (.ret (.bool true)) ∧ OldK s1.heap s'.heap ∧ s'.os = s1.os ∧ AllBare s'.gens) s1 := by
    intro z hz hS
    -- what is tracked
    have told : ∀ b u, Hs ts a z b = some u → (b ∈ ts ∧ u = .tbl #[]) ∨ (b = a ∧ z = some u) := fun b u e => by
      by_cases m : b ∈ ts
      · rw [hs_in m] at e
        exact .inl ⟨m, (Option.some.inj e).symm⟩
      · by_cases m2 : b = a
        · subst m2
          rw [hs_at m] at e
          exact .inr ⟨rfl, e⟩
        · rw [hs_out m m2] at e
          cases e
    have hok : HOk P w (Hs ts a z) s1.heap := fun b u e => by
      rcases told b u e with ⟨m, rfl⟩ | ⟨rfl, e2⟩
      · exact tv b m
      · rcases hz with rfl | ⟨_, rfl⟩
        · cases e2
        · cases e2
          exact ⟨ha, by rw [List.length_map]; exact hl, vs, _, rv, ha⟩
    have free : ∀ {b : Addr} {o : Obj}, s1.heap.get? b = some o → (∀ vs n, o.data ≠ .seq vs n) → (∀ fs, o.data ≠ .fields fs) → (hidT s1.heap (Hs ts a z)).get? b = some o := fun {b o} e n1 n2 => by
      refine hidT_get e ?_
      cases q : Hs ts a z b with
      | none => rfl
      | some u =>
        rcases told b u q with ⟨m, _⟩ | ⟨m, _⟩
        · rw [tv b m] at e
          cases e
          exact absurd rfl (n2 _)
        · rw [m, ha] at e
          cases e
          exact absurd rfl (n1 _ _)
    have nsK : ∀ {b : Addr} {m : Str → Option Value}, s1.heap.Ns b m → (hidT s1.heap (Hs ts a z)).Ns b m := by
      intro b m ⟨o, es, ep, e, d, r⟩
      exact ⟨o, es, ep, free e (fun _ _ z => by rw [d] at z; cases z) (fun _ z => by rw [d] at z; cases z), d, r⟩
    have kb : K.In (hidT s1.heap (Hs ts a z)) := by
      intro b o e
      refine hidT_get (KX b o e) ?_
      cases q : Hs ts a z b with
      | none => rfl
      | some u =>
        rcases told b u q with ⟨m, _⟩ | ⟨m, e2⟩
        · obtain ⟨p, hp, rfl⟩ := tof b m
          rw [out p hp] at e
          cases e
        · rcases hz with rfl | ⟨kn, _⟩
          · cases e2
          · rw [m, kn] at e
            cases e
    have tb : ∀ p ∈ ct, TabB (hidT s1.heap (Hs ts a z)) mg p.1 p.2 := fun p hp => by
      refine ⟨PySem.W.codeHd_of_K kb (code p hp), ?_, fun q => ?_⟩
      · obtain ⟨bm, o, b1, b2, b3, b4, b5, b6⟩ := hbm
        refine ⟨bm, o, b1, b2, fun q => ?_, fun q => ?_, free b3 (fun _ _ z => by rw [b6] at z; cases z) (fun _ z => by rw [b6] at z; cases z), b4, b5, b6⟩
        · obtain ⟨o2, es, ep, e, d, _⟩ := hns
          rw [q, e] at b3
          cases b3
          rw [d] at b6
          cases b6
        · rw [q, void p hp] at b3
          cases b3
          cases b6
      · obtain ⟨o2, es, ep, e, d, _⟩ := hns
        rw [q, void p hp] at e
        cases e
        cases d
    have hM : Mod K mg (hidT s1.heap (Hs ts a z)) := by
      obtain ⟨mc, h1, h2⟩ := hlim
      exact ⟨kb, nsK hns, ⟨mb, nsK hb, hbb⟩, ⟨mc, nsK h1, h2⟩⟩
    have e0 : Env0 P w K mg (hidT s1.heap (Hs ts a z)) callerA [] s1 (Hs ts a z) :=
      ⟨rfl, hM, fun b o e => of_hidT e, Nat.le_of_eq (hidT_size _ _), trivial, fun b hb => absurd (show b ∈ ([] : List Addr) from hb) (by simp), hok, .of_eq hg⟩
    refine codeAny_mono ((F _ kb (nsK hns) tb).run callerA [] s1 (Hs ts a z) ⟨[.ref a], []⟩ [.ref a] [.ref a] _ _ hr rfl e0 (hbind s1 (.ref a)) (.cons rfl .nil) (hsp _ (fun p hp => hs_in (tin p hp)) hS)) fun r s' h => ?_
    cases r with
    | error e => exact h.elim
    | ok fl =>
      cases fl with
      | next => exact False.elim h
      | brk => exact False.elim h
      | cont => exact False.elim h
      | ret u =>
        obtain ⟨v, H', os, bare, un, hok', r', q⟩ := h
        have q' : v = .bl true := q
        subst q'
        obtain rfl : u = Value.bool true := r'
        have same : ∀ b o, b ∉ ts → s1.heap.get? b = some o → s'.heap.get? b = some o := fun b o m e => by
          cases q : Hs ts a z b with
          | none => exact un.keep b o e q (fun z => nomatch (show b ∈ ([] : List Addr) from z)) (by simp)
          | some u =>
            rcases told b u q with ⟨m2, _⟩ | ⟨m2, e2⟩
            · exact absurd m2 m
            · rcases hz with rfl | ⟨_, rfl⟩
              · cases e2
              · cases e2
                obtain ⟨o1, _⟩ := hok b _ q
                obtain ⟨o2, _⟩ := hok' b _ (un.frzs b _ _ q)
                rw [e] at o1; cases o1
                exact o2
        have more : ∀ p ∈ ct, ∃ m : Array Value, s'.heap.get? p.2 = some { cls := .none, data := .fields m } := fun p hp => by
          obtain ⟨m, z⟩ := un.tbls p.2 #[] (hs_in (tin p hp))
          exact ⟨_, hok' p.2 _ z⟩
        refine ⟨rfl, ⟨fun b o e => ?_, fun b o e => ?_⟩, os, bare⟩
        · by_cases m : b ∈ ts
          · obtain ⟨p, hp, rfl⟩ := tof b m
            obtain ⟨fs, hf⟩ := more p hp
            rw [void p hp] at e
            cases e
            exact .inr (.inl ⟨((PySem.W.codeHd_of_K KX (code p hp)).tab (void p hp)).isCodeTable, rfl, #[], fs, rfl, by rw [Array.empty_append]; exact hf⟩)
          · exact .inl (same b o m e)
        · by_cases m : b ∈ ts
          · obtain ⟨p, hp, rfl⟩ := tof b m
            obtain ⟨fs, hf⟩ := more p hp
            exact ⟨_, hf⟩
          · exact ⟨o, same b o m e⟩
  cases hk : K.lookup a with
  | some o =>
    have e := KX a o hk
    rw [ha] at e
    cases e
    exact core none (.inl rfl) (.inr ⟨_, vs.toArray, _, hk, rfl, rfl, rfl, by rw [List.size_toArray, lv]; exact hl, by simpa using rv⟩)
  | none => exact core _ (.inr ⟨hk, rfl⟩) (.inl (.inr ⟨_, hs_at an⟩))
theorem walk_TE {l : PySem.W.OpenLaw} {n k : Nat} {q : Program} {loose : List Str} {XP : (Str → Option Value) → Heap → Prop} {YP : World → Heap → Prop} {d : DefRec} {x : Str}
    (hn : l.most = some n) (hn2 : n ≤ sizeLine) (hdf : d.params.defaults = []) (hr : Room k callerA)
    (F : ∀ (w : World) (mg : Str → Option Value) (fa : Addr) (h : Heap), YP w h → h.Ns mainGlobals mg → mg d.name = some (.ref fa) →
      ∃ (K : PySem.W.Frag) (fd : FuncData) (sp : Sp) (ct : List (Addr × Addr)), K.In h ∧
        (∀ p ∈ ct, h.get? p.2 = some { cls := .none, data := .fields #[] }) ∧ (∀ p ∈ ct, K.lookup p.2 = none) ∧ (∀ p ∈ ct, PySem.W.codeHdIn K p.1 p.2 = true) ∧
        (∀ (s : Shared) (u : Value), BindsTo s fd ⟨[u], []⟩ [(x, u)]) ∧
        (∀ (H : Hp) (a : Addr) (ns : List Int), ns.length ≤ n → (∀ p ∈ ct, H p.2 = some (.tbl #[])) → SqL K H a (ns.map V.int) → sp [.ref a] H (fun v _ => v = .bl true) fun _ _ _ => False) ∧
        ∀ base : Heap, K.In base → base.Ns mainGlobals mg → (∀ p ∈ ct, TabB base mg p.1 p.2) → FnG l.prog w K mg base CX0 k fa fd [x] sp) :
    PySem.W.WalkO q loose XP YP l.row.toRowW d [] (fun f vs => PySem.call f vs) := by
  refine Att.attach_call hn hdf fun w s0 s1 mg mb fa o pm cd doc a vs ns G Y ho hd hcd hmg hobj hints hlen hg => ?_
  obtain ⟨K, fd, sp, ct, KX, t1, t2, t3, hb, hsp, hF⟩ := F w mg fa _ Y G.T.g hmg
  exact call_tabs KX G.T.g G.T.b G.T.builtins G.T.nolimit hg t1 t2 t3 G.T.bmain hobj hints (Nat.le_trans hlen hn2) hr hF hb fun H hO hS => hsp H a ns hlen hO hS
end Ht

set_option Elab.async false
set_option linter.all false
set_option maxRecDepth 100000
set_option maxHeartbeats 0
namespace K13
open PySem L2 Lay He Hd Ha Own Ht
abbrev i_InvalidEntries : Stmt := inClass (top 8) 0
abbrev i_TooMany : Stmt := inClass (top 10) 0
def fnL : List DefA := [
  ⟨fun K => ga K "is_integer", "is_integer", "is_integer", s_is_integer⟩,
  ⟨fun K => ga K "is_name", "is_name", "is_name", s_is_name⟩,
  ⟨fun K => ga K "is_list", "is_list", "is_list", s_is_list⟩,
  ⟨fun K => ga K "in_order", "in_order", "in_order", s_in_order⟩,
  ⟨fun K => ga K "merged", "merged", "merged", s_merged⟩,
  ⟨fun K => ga K "is_distance", "is_distance", "is_distance", s_is_distance⟩,
  ⟨fun K => ga K "is_entry", "is_entry", "is_entry", s_is_entry⟩,
  ⟨fun K => ga K "check_entries", "check_entries", "check_entries", s_check_entries⟩,
  ⟨fun K => ga K "normed", "normed", "normed", s_normed⟩,
  ⟨fun K => ga K "reach_of", "reach_of", "reach_of", s_reach_of⟩,
  ⟨fun K => ga K "check_reach", "check_reach", "check_reach", s_check_reach⟩,
  ⟨fun K => ga K "_law_pot", "_law_pot", "_law_pot", s_l_pot⟩,
  ⟨fun K => ga K "_law_draw", "_law_draw", "_law_draw", s_l_draw⟩,
  ⟨fun K => ga K "_law_among", "_law_among", "_law_among", s_l_among⟩,
  ⟨fun K => ga K "_law_names", "_law_names", "_law_names", s_l_names⟩,
  ⟨fun K => ga K "_law_normed", "_law_normed", "_law_normed", s_l_normed⟩,
  ⟨fun K => ga K "_law_entries", "_law_entries", "_law_entries", s_l_entries⟩,
  ⟨fun K => ga K "_law_kind", "_law_kind", "_law_kind", s_l_kind⟩,
  ⟨fun K => ga K "_law_heard", "_law_heard", "_law_heard", s_l_heard⟩,
  ⟨fun K => ga K "_law_odd", "_law_odd", "_law_odd", s_l_odd⟩,
  ⟨fun K => ga K "_law_both_right", "_law_both_right", "_law_both_right", s_l_both_right⟩,
  ⟨fun K => ga K "_law_spoilt_right", "_law_spoilt_right", "_law_spoilt_right", s_l_spoilt_right⟩,
  ⟨fun K => ga K "_law_far_right", "_law_far_right", "_law_far_right", s_l_far_right⟩,
  ⟨fun K => ga K "_law_few_right", "_law_few_right", "_law_few_right", s_l_few_right⟩,
  ⟨fun K => ga K "_law_right", "_law_right", "_law_right", s_l_right⟩,
  ⟨fun K => ga K "law", "law", "law", s_law⟩,
  ⟨fun K => Kd.st K "of", "of", "Kind.of", s_Kind_of⟩,
  ⟨fun K => ma K (kc K) "entries", "entries", "Kind.entries", s_Kind_entries⟩,
  ⟨fun K => ma K (kc K) "__eq__", "__eq__", "Kind.__eq__", s_Kind___eq⟩,
  ⟨fun K => ma K (kc K) "__init__", "__init__", "Kind.__init__", s_Kind___init⟩,
  ⟨fun K => ma K (ga K "InvalidEntries") "__init__", "__init__", "InvalidEntries.__init__", i_InvalidEntries⟩,
  ⟨fun K => ma K (ga K "TooMany") "__init__", "__init__", "TooMany.__init__", i_TooMany⟩]
def faL : List He.Fa := [.free "len", .free "int", .free "abs", .free "max", .free "min", .free "divmod", .free "isinstance", .free "bool", .free "str", .free "repr", .free "range", .free "all", .free "any", .free "tuple", .free "list", .free "sorted", .free "set", .free "enumerate", .free "ValueError", .free "ArithmeticError", .int "MOST_LETTERS" 8, .int "FARTHEST" 20, .int "FEWEST_ENTRIES" 2, .glo "is_integer", .glo "is_name", .glo "is_list", .glo "in_order", .glo "merged", .glo "is_distance", .glo "is_entry", .glo "check_entries", .glo "normed", .glo "reach_of", .glo "check_reach", .glo "_law_pot", .glo "_law_draw", .glo "_law_among", .glo "_law_names", .glo "_law_normed", .glo "_law_entries", .glo "_law_kind", .glo "_law_heard", .glo "_law_odd", .glo "_law_both_right", .glo "_law_spoilt_right", .glo "_law_far_right", .glo "_law_few_right", .glo "_law_right", .glo "law", .glo "Kind", .glo "InvalidEntries", .glo "TooMany", .glo "LineError", .glo "LimitError", .cls "Kind", .mkr "Kind", .meth "Kind" "entries", .noat "Kind" "_entries", .noat "Kind" "_reach", .noat "InvalidEntries" "position", .noat "TooMany" "what", .noat "TooMany" "limit"]
def inB (K : PySem.W.Frag) (x : Str) : Bool := eqO (PySem.W.findIn K (.ref (ga K x)) "__init__") (some (some (.ref (ma K (ga K x) "__init__")))) && decide (PySem.W.typeIn K (.ref (ma K (ga K x) "__init__")) = some (.type "function"))
def tfL : List He.Defn := [("_law_both_right", none), ("_law_few_right", none), ("_law_right", none)]
def tP (K : PySem.W.Frag) (i : Nat) : Addr := (cT K (tfL.getD i ("", none))).2
def fbL : List (PySem.W.Frag → Bool) := [
  fun K => faL.all fun f => f.ok K,
  fun K => crdB K (kc K),
  fun K => cstB K (kc K) "of",
  fun K => cviB K (kc K) "MOST_ENTRIES" 6,
  fun K => cviB K (kc K) "MOST_REACH" 3,
  fun K => dunB K (kc K) "__eq__",
  fun K => clB K (ga K "InvalidEntries") "ValueError.__new__" [.type "ValueError", .type "Exception", .type "BaseException", .type "object"],
  fun K => clB K (ga K "TooMany") "ArithmeticError.__new__" [.type "ArithmeticError", .type "Exception", .type "BaseException", .type "object"],
  fun K => inB K "InvalidEntries",
  fun K => inB K "TooMany",
  fun K => decide (PySem.W.kitOne K (.ref (ga K "InvalidEntries")) (.ref (ga K "LineError")) = some true),
  fun K => decide (PySem.W.kitOne K (.ref (ga K "TooMany")) (.ref (ga K "LimitError")) = some true),
  fun K => decide (PySem.W.exmOne K (.ref (ga K "InvalidEntries")) (.ref (ga K "InvalidEntries")) = some true),
  fun K => decide (PySem.W.exmOne K (.ref (ga K "TooMany")) (.ref (ga K "InvalidEntries")) = some false),
  fun K => decide (PySem.W.exmOne K (.ref (ga K "TooMany")) (.ref (ga K "TooMany")) = some true),
  fun K => decide (tP K 0 ≠ tP K 1),
  fun K => decide (tP K 0 ≠ tP K 2),
  fun K => decide (tP K 1 ≠ tP K 2),
  fun K => eqO (PySem.W.findIn K (.ref (kc K)) "__ne__") (some (some (.builtin "object.__ne__"))),
  fun K => decide (PySem.W.mroIn K (kc K) (.type "object") = some true),
  fun K => ktB K (kc K) Ty7,
  fun K => decide (PySem.W.kitOne K (.ref (kc K)) (.ref (kc K)) = some true),
  fun K => eqO (PySem.W.findIn K (.ref (kc K)) "__class__") (some (some (.builtin "object.__class__"))),
  fun K => decide (PySem.W.specialIn K (.builtin "object.__class__") "__get__" = some (some (.builtin "getset_descriptor.__get__"))),
  fun K => decide (PySem.W.takesIn K (.builtin "object.__class__") = some true)]
def fb (K : PySem.W.Frag) : Bool := fbL.all fun f => f K
abbrev R : PySem.W.OpenRow := PySem.W.OpenLaw.row PySem.Challenge.rw_twoeach_k13_kinds_refused
abbrev hk : PySem.W.Hook := hookB 5 fb fnL tfL
def ob (s : PySem.W.SharedT) : AlB := obsB 5 fb fnL tfL (HandSHeadRun.getT s)
theorem ob_eq (s : PySem.W.SharedT) : ob s = hk.obs s.abs := obsB_eq (HandSHeadRun.getT_eq s)
def looseL : List PySem.Str := [("MOST_LETTERS" : PySem.Str), ("FARTHEST" : PySem.Str), ("FEWEST_ENTRIES" : PySem.Str), ("_wall" : PySem.Str), ("is_integer" : PySem.Str), ("is_name" : PySem.Str), ("is_list" : PySem.Str), ("LineError" : PySem.Str), ("InvalidEntries" : PySem.Str), ("LimitError" : PySem.Str), ("TooMany" : PySem.Str), ("in_order" : PySem.Str), ("merged" : PySem.Str), ("is_distance" : PySem.Str), ("is_entry" : PySem.Str), ("check_entries" : PySem.Str), ("normed" : PySem.Str), ("reach_of" : PySem.Str), ("check_reach" : PySem.Str), ("shifted" : PySem.Str), ("lie_among" : PySem.Str), ("shifts_among" : PySem.Str), ("Kind" : PySem.Str), ("_law_pot" : PySem.Str), ("_law_draw" : PySem.Str), ("_law_among" : PySem.Str), ("_law_names" : PySem.Str), ("_law_normed" : PySem.Str), ("_law_entries" : PySem.Str), ("_law_kind" : PySem.Str), ("_law_heard" : PySem.Str), ("_law_odd" : PySem.Str), ("_law_both_right" : PySem.Str), ("_law_spoilt_right" : PySem.Str), ("_law_far_right" : PySem.Str), ("_law_few_right" : PySem.Str), ("_law_right" : PySem.Str)]
end K13

set_option Elab.async false
set_option linter.all false
set_option maxRecDepth 100000
set_option maxHeartbeats 4000000
namespace K13
open PySem L2 Lay He Hd Ha Own Ht LamX
section
variable {K : PySem.W.Frag} {h : Heap} {mg : Str → Option Value}
theorem fb_at (c : fb K = true) (i : Nat) {f : PySem.W.Frag → Bool} (e : fbL[i]? = some f := by rfl) : f K = true := List.all_eq_true.mp (show (fbL.all fun f => f K) = true from c) f (List.mem_of_getElem? e)
theorem fa_at (c : fb K = true) (i : Nat) {f : He.Fa} (e : faL[i]? = some f := by rfl) : f.ok K = true := List.all_eq_true.mp (fb_at c 0) f (List.mem_of_getElem? e)
theorem ec_of {P : Program} {w : World} {base : Heap} {x qual : Str} {newId : String} {bmB : List Value} {st : Stmt} {fd : FuncData} {ps : List Str} {n : Nat} {mk : List V → List (Str × V)}
    (g : mg x = some (.ref (ga K x))) (cl : Exv.Cl K (ga K x) newId bmB) (hi : inB K x = true) (F : Fun K "__init__" qual st (ma K (ga K x) "__init__") fd)
    (hF : FnOk P w K mg base CX0 1 (ma K (ga K x) "__init__") fd ps (Exv.spI (ga K x) n mk))
    (h1 : ∀ (kV doc pm : Value) (an : Option Addr) (cdv ct : Value) (us : List Value), us.length = ps.length → bindArgs (PySem.W.fnOf "__init__" qual (defArgs st) (defBody st) (defScope st) .none kV doc pm an cdv ct) ⟨us, []⟩ = pure (ps.zip us))
    (h2 : ∀ (kV doc pm : Value) (an : Option Addr) (cdv ct : Value) (s0 : Value) (ws : List Value), ws.length = n → ∀ ks : List Str, ks ++ [("self" : Str)] = ps.reverse →
      bindArgs (PySem.W.fnOf "__init__" qual (defArgs st) (defBody st) (defScope st) .none kV doc pm an cdv ct) ⟨[s0], ks.zip ws⟩ = pure (ps.zip (s0 :: ws.reverse))) : Exv.Ec P w K mg base x (ga K x) newId bmB ps n mk := by
  obtain ⟨i1, i2⟩ := ba hi
  refine ⟨g, cl, _, fd, eqO_ok i1, of_decide_eq_true i2, hF, ?_, ?_⟩
  · obtain ⟨oc, od, kV, doc, pm, an, cdv, ct, osl, rfl, lk, hcd⟩ := F.ex
    exact h1 kV doc pm an cdv ct
  · obtain ⟨oc, od, kV, doc, pm, an, cdv, ct, osl, rfl, lk, hcd⟩ := F.ex
    exact fun s0 ws hl ks e => h2 kV doc pm an cdv ct s0 ws hl ks e
theorem sci_InvalidEntries : FnScope ["self", "position"] ["self", "position"] (defScope i_InvalidEntries) := ⟨rfl, rfl, rfl, by decide +kernel, rfl, by decide +kernel, by decide +kernel⟩
theorem sci_TooMany : FnScope ["self", "what", "limit"] ["self", "what", "limit"] (defScope i_TooMany) := ⟨rfl, rfl, rfl, by decide +kernel, rfl, by decide +kernel, by decide +kernel⟩
theorem t_n_len (X : K.In h) (G : h.Ns mainGlobals mg) (cc : obsA fb fnL K = valA fnL) : mg "len" = none := by
  have c : fb K = true := says_b cc
  exact free_ok X G (fa_at c 0)
theorem t_n_int (X : K.In h) (G : h.Ns mainGlobals mg) (cc : obsA fb fnL K = valA fnL) : mg "int" = none := by
  have c : fb K = true := says_b cc
  exact free_ok X G (fa_at c 1)
theorem t_n_abs (X : K.In h) (G : h.Ns mainGlobals mg) (cc : obsA fb fnL K = valA fnL) : mg "abs" = none := by
  have c : fb K = true := says_b cc
  exact free_ok X G (fa_at c 2)
theorem t_n_max (X : K.In h) (G : h.Ns mainGlobals mg) (cc : obsA fb fnL K = valA fnL) : mg "max" = none := by
  have c : fb K = true := says_b cc
  exact free_ok X G (fa_at c 3)
theorem t_n_min (X : K.In h) (G : h.Ns mainGlobals mg) (cc : obsA fb fnL K = valA fnL) : mg "min" = none := by
  have c : fb K = true := says_b cc
  exact free_ok X G (fa_at c 4)
theorem t_n_divmod (X : K.In h) (G : h.Ns mainGlobals mg) (cc : obsA fb fnL K = valA fnL) : mg "divmod" = none := by
  have c : fb K = true := says_b cc
  exact free_ok X G (fa_at c 5)
theorem t_n_isinstance (X : K.In h) (G : h.Ns mainGlobals mg) (cc : obsA fb fnL K = valA fnL) : mg "isinstance" = none := by
  have c : fb K = true := says_b cc
  exact free_ok X G (fa_at c 6)
theorem t_n_bool (X : K.In h) (G : h.Ns mainGlobals mg) (cc : obsA fb fnL K = valA fnL) : mg "bool" = none := by
  have c : fb K = true := says_b cc
  exact free_ok X G (fa_at c 7)
theorem t_n_str (X : K.In h) (G : h.Ns mainGlobals mg) (cc : obsA fb fnL K = valA fnL) : mg "str" = none := by
  have c : fb K = true := says_b cc
  exact free_ok X G (fa_at c 8)
theorem t_n_repr (X : K.In h) (G : h.Ns mainGlobals mg) (cc : obsA fb fnL K = valA fnL) : mg "repr" = none := by
  have c : fb K = true := says_b cc
  exact free_ok X G (fa_at c 9)
theorem t_n_range (X : K.In h) (G : h.Ns mainGlobals mg) (cc : obsA fb fnL K = valA fnL) : mg "range" = none := by
  have c : fb K = true := says_b cc
  exact free_ok X G (fa_at c 10)
theorem t_n_all (X : K.In h) (G : h.Ns mainGlobals mg) (cc : obsA fb fnL K = valA fnL) : mg "all" = none := by
  have c : fb K = true := says_b cc
  exact free_ok X G (fa_at c 11)
theorem t_n_any (X : K.In h) (G : h.Ns mainGlobals mg) (cc : obsA fb fnL K = valA fnL) : mg "any" = none := by
  have c : fb K = true := says_b cc
  exact free_ok X G (fa_at c 12)
theorem t_n_tuple (X : K.In h) (G : h.Ns mainGlobals mg) (cc : obsA fb fnL K = valA fnL) : mg "tuple" = none := by
  have c : fb K = true := says_b cc
  exact free_ok X G (fa_at c 13)
theorem t_n_list (X : K.In h) (G : h.Ns mainGlobals mg) (cc : obsA fb fnL K = valA fnL) : mg "list" = none := by
  have c : fb K = true := says_b cc
  exact free_ok X G (fa_at c 14)
theorem t_n_sorted (X : K.In h) (G : h.Ns mainGlobals mg) (cc : obsA fb fnL K = valA fnL) : mg "sorted" = none := by
  have c : fb K = true := says_b cc
  exact free_ok X G (fa_at c 15)
theorem t_n_set (X : K.In h) (G : h.Ns mainGlobals mg) (cc : obsA fb fnL K = valA fnL) : mg "set" = none := by
  have c : fb K = true := says_b cc
  exact free_ok X G (fa_at c 16)
theorem t_n_enumerate (X : K.In h) (G : h.Ns mainGlobals mg) (cc : obsA fb fnL K = valA fnL) : mg "enumerate" = none := by
  have c : fb K = true := says_b cc
  exact free_ok X G (fa_at c 17)
theorem t_c_MOST_LETTERS (X : K.In h) (G : h.Ns mainGlobals mg) (cc : obsA fb fnL K = valA fnL) : ∃ u, mg "MOST_LETTERS" = some u ∧ RelV (.int 8) u := by
  have c : fb K = true := says_b cc
  obtain ⟨t, e⟩ := int_ok X G (fa_at c 20); exact ⟨_, e, t, rfl⟩
theorem t_c_FARTHEST (X : K.In h) (G : h.Ns mainGlobals mg) (cc : obsA fb fnL K = valA fnL) : ∃ u, mg "FARTHEST" = some u ∧ RelV (.int 20) u := by
  have c : fb K = true := says_b cc
  obtain ⟨t, e⟩ := int_ok X G (fa_at c 21); exact ⟨_, e, t, rfl⟩
theorem t_c_FEWEST_ENTRIES (X : K.In h) (G : h.Ns mainGlobals mg) (cc : obsA fb fnL K = valA fnL) : ∃ u, mg "FEWEST_ENTRIES" = some u ∧ RelV (.int 2) u := by
  have c : fb K = true := says_b cc
  obtain ⟨t, e⟩ := int_ok X G (fa_at c 22); exact ⟨_, e, t, rfl⟩
theorem t_S_is_integer (X : K.In h) (G : h.Ns mainGlobals mg) (cc : obsA fb fnL K = valA fnL) : Src K mg "is_integer" s_is_integer ["value"] := by
  have c : fb K = true := says_b cc
  obtain ⟨fd, F⟩ := says_d cc 0; obtain ⟨b1, b2⟩ := two_of (ps := ["value"]) F (fun _ _ _ _ _ _ us hl => match us, hl with | [_], _ => rfl) (fun _ _ _ _ _ _ p v e => by cases e; rfl); exact ⟨_, fd, F, glo_ok X G (fa_at c 23), b1, b2⟩
theorem t_S_is_name (X : K.In h) (G : h.Ns mainGlobals mg) (cc : obsA fb fnL K = valA fnL) : Src K mg "is_name" s_is_name ["value"] := by
  have c : fb K = true := says_b cc
  obtain ⟨fd, F⟩ := says_d cc 1; obtain ⟨b1, b2⟩ := two_of (ps := ["value"]) F (fun _ _ _ _ _ _ us hl => match us, hl with | [_], _ => rfl) (fun _ _ _ _ _ _ p v e => by cases e; rfl); exact ⟨_, fd, F, glo_ok X G (fa_at c 24), b1, b2⟩
theorem t_S_is_list (X : K.In h) (G : h.Ns mainGlobals mg) (cc : obsA fb fnL K = valA fnL) : Src K mg "is_list" s_is_list ["value"] := by
  have c : fb K = true := says_b cc
  obtain ⟨fd, F⟩ := says_d cc 2; obtain ⟨b1, b2⟩ := two_of (ps := ["value"]) F (fun _ _ _ _ _ _ us hl => match us, hl with | [_], _ => rfl) (fun _ _ _ _ _ _ p v e => by cases e; rfl); exact ⟨_, fd, F, glo_ok X G (fa_at c 25), b1, b2⟩
theorem t_S_in_order (X : K.In h) (G : h.Ns mainGlobals mg) (cc : obsA fb fnL K = valA fnL) : Src K mg "in_order" s_in_order ["rows"] := by
  have c : fb K = true := says_b cc
  obtain ⟨fd, F⟩ := says_d cc 3; obtain ⟨b1, b2⟩ := two_of (ps := ["rows"]) F (fun _ _ _ _ _ _ us hl => match us, hl with | [_], _ => rfl) (fun _ _ _ _ _ _ p v e => by cases e; rfl); exact ⟨_, fd, F, glo_ok X G (fa_at c 26), b1, b2⟩
theorem t_S_merged (X : K.In h) (G : h.Ns mainGlobals mg) (cc : obsA fb fnL K = valA fnL) : Src K mg "merged" s_merged ["one", "other"] := by
  have c : fb K = true := says_b cc
  obtain ⟨fd, F⟩ := says_d cc 4; obtain ⟨b1, b2⟩ := two_of (ps := ["one", "other"]) F (fun _ _ _ _ _ _ us hl => match us, hl with | [_, _], _ => rfl) (fun _ _ _ _ _ _ p v e => by cases e); exact ⟨_, fd, F, glo_ok X G (fa_at c 27), b1, b2⟩
theorem t_S_is_distance (X : K.In h) (G : h.Ns mainGlobals mg) (cc : obsA fb fnL K = valA fnL) : Src K mg "is_distance" s_is_distance ["value"] := by
  have c : fb K = true := says_b cc
  obtain ⟨fd, F⟩ := says_d cc 5; obtain ⟨b1, b2⟩ := two_of (ps := ["value"]) F (fun _ _ _ _ _ _ us hl => match us, hl with | [_], _ => rfl) (fun _ _ _ _ _ _ p v e => by cases e; rfl); exact ⟨_, fd, F, glo_ok X G (fa_at c 28), b1, b2⟩
theorem t_S_is_entry (X : K.In h) (G : h.Ns mainGlobals mg) (cc : obsA fb fnL K = valA fnL) : Src K mg "is_entry" s_is_entry ["value"] := by
  have c : fb K = true := says_b cc
  obtain ⟨fd, F⟩ := says_d cc 6; obtain ⟨b1, b2⟩ := two_of (ps := ["value"]) F (fun _ _ _ _ _ _ us hl => match us, hl with | [_], _ => rfl) (fun _ _ _ _ _ _ p v e => by cases e; rfl); exact ⟨_, fd, F, glo_ok X G (fa_at c 29), b1, b2⟩
theorem t_S_check_entries (X : K.In h) (G : h.Ns mainGlobals mg) (cc : obsA fb fnL K = valA fnL) : Src K mg "check_entries" s_check_entries ["entries"] := by
  have c : fb K = true := says_b cc
  obtain ⟨fd, F⟩ := says_d cc 7; obtain ⟨b1, b2⟩ := two_of (ps := ["entries"]) F (fun _ _ _ _ _ _ us hl => match us, hl with | [_], _ => rfl) (fun _ _ _ _ _ _ p v e => by cases e; rfl); exact ⟨_, fd, F, glo_ok X G (fa_at c 30), b1, b2⟩
theorem t_S_normed (X : K.In h) (G : h.Ns mainGlobals mg) (cc : obsA fb fnL K = valA fnL) : Src K mg "normed" s_normed ["entries"] := by
  have c : fb K = true := says_b cc
  obtain ⟨fd, F⟩ := says_d cc 8; obtain ⟨b1, b2⟩ := two_of (ps := ["entries"]) F (fun _ _ _ _ _ _ us hl => match us, hl with | [_], _ => rfl) (fun _ _ _ _ _ _ p v e => by cases e; rfl); exact ⟨_, fd, F, glo_ok X G (fa_at c 31), b1, b2⟩
theorem t_S_reach_of (X : K.In h) (G : h.Ns mainGlobals mg) (cc : obsA fb fnL K = valA fnL) : Src K mg "reach_of" s_reach_of ["entries"] := by
  have c : fb K = true := says_b cc
  obtain ⟨fd, F⟩ := says_d cc 9; obtain ⟨b1, b2⟩ := two_of (ps := ["entries"]) F (fun _ _ _ _ _ _ us hl => match us, hl with | [_], _ => rfl) (fun _ _ _ _ _ _ p v e => by cases e; rfl); exact ⟨_, fd, F, glo_ok X G (fa_at c 32), b1, b2⟩
theorem t_S_check_reach (X : K.In h) (G : h.Ns mainGlobals mg) (cc : obsA fb fnL K = valA fnL) : Src K mg "check_reach" s_check_reach ["reach"] := by
  have c : fb K = true := says_b cc
  obtain ⟨fd, F⟩ := says_d cc 10; obtain ⟨b1, b2⟩ := two_of (ps := ["reach"]) F (fun _ _ _ _ _ _ us hl => match us, hl with | [_], _ => rfl) (fun _ _ _ _ _ _ p v e => by cases e; rfl); exact ⟨_, fd, F, glo_ok X G (fa_at c 33), b1, b2⟩
theorem t_S_l_pot (X : K.In h) (G : h.Ns mainGlobals mg) (cc : obsA fb fnL K = valA fnL) : Src K mg "_law_pot" s_l_pot ["_law_script", "_law_k"] := by
  have c : fb K = true := says_b cc
  obtain ⟨fd, F⟩ := says_d cc 11; obtain ⟨b1, b2⟩ := two_of (ps := ["_law_script", "_law_k"]) F (fun _ _ _ _ _ _ us hl => match us, hl with | [_, _], _ => rfl) (fun _ _ _ _ _ _ p v e => by cases e); exact ⟨_, fd, F, glo_ok X G (fa_at c 34), b1, b2⟩
theorem t_S_l_draw (X : K.In h) (G : h.Ns mainGlobals mg) (cc : obsA fb fnL K = valA fnL) : Src K mg "_law_draw" s_l_draw ["_law_pot_here", "_law_many"] := by
  have c : fb K = true := says_b cc
  obtain ⟨fd, F⟩ := says_d cc 12; obtain ⟨b1, b2⟩ := two_of (ps := ["_law_pot_here", "_law_many"]) F (fun _ _ _ _ _ _ us hl => match us, hl with | [_, _], _ => rfl) (fun _ _ _ _ _ _ p v e => by cases e); exact ⟨_, fd, F, glo_ok X G (fa_at c 35), b1, b2⟩
theorem t_S_l_among (X : K.In h) (G : h.Ns mainGlobals mg) (cc : obsA fb fnL K = valA fnL) : Src K mg "_law_among" s_l_among ["_law_pot_here", "_law_some"] := by
  have c : fb K = true := says_b cc
  obtain ⟨fd, F⟩ := says_d cc 13; obtain ⟨b1, b2⟩ := two_of (ps := ["_law_pot_here", "_law_some"]) F (fun _ _ _ _ _ _ us hl => match us, hl with | [_, _], _ => rfl) (fun _ _ _ _ _ _ p v e => by cases e); exact ⟨_, fd, F, glo_ok X G (fa_at c 36), b1, b2⟩
theorem t_S_l_names (X : K.In h) (G : h.Ns mainGlobals mg) (cc : obsA fb fnL K = valA fnL) : Src K mg "_law_names" s_l_names ["_law_pot_here", "_law_many"] := by
  have c : fb K = true := says_b cc
  obtain ⟨fd, F⟩ := says_d cc 14; obtain ⟨b1, b2⟩ := two_of (ps := ["_law_pot_here", "_law_many"]) F (fun _ _ _ _ _ _ us hl => match us, hl with | [_, _], _ => rfl) (fun _ _ _ _ _ _ p v e => by cases e); exact ⟨_, fd, F, glo_ok X G (fa_at c 37), b1, b2⟩
theorem t_S_l_normed (X : K.In h) (G : h.Ns mainGlobals mg) (cc : obsA fb fnL K = valA fnL) : Src K mg "_law_normed" s_l_normed ["_law_some"] := by
  have c : fb K = true := says_b cc
  obtain ⟨fd, F⟩ := says_d cc 15; obtain ⟨b1, b2⟩ := two_of (ps := ["_law_some"]) F (fun _ _ _ _ _ _ us hl => match us, hl with | [_], _ => rfl) (fun _ _ _ _ _ _ p v e => by cases e; rfl); exact ⟨_, fd, F, glo_ok X G (fa_at c 38), b1, b2⟩
theorem t_S_l_entries (X : K.In h) (G : h.Ns mainGlobals mg) (cc : obsA fb fnL K = valA fnL) : Src K mg "_law_entries" s_l_entries ["_law_pot_here", "_law_tags"] := by
  have c : fb K = true := says_b cc
  obtain ⟨fd, F⟩ := says_d cc 16; obtain ⟨b1, b2⟩ := two_of (ps := ["_law_pot_here", "_law_tags"]) F (fun _ _ _ _ _ _ us hl => match us, hl with | [_, _], _ => rfl) (fun _ _ _ _ _ _ p v e => by cases e); exact ⟨_, fd, F, glo_ok X G (fa_at c 39), b1, b2⟩
theorem t_S_l_kind (X : K.In h) (G : h.Ns mainGlobals mg) (cc : obsA fb fnL K = valA fnL) : Src K mg "_law_kind" s_l_kind ["_law_some"] := by
  have c : fb K = true := says_b cc
  obtain ⟨fd, F⟩ := says_d cc 17; obtain ⟨b1, b2⟩ := two_of (ps := ["_law_some"]) F (fun _ _ _ _ _ _ us hl => match us, hl with | [_], _ => rfl) (fun _ _ _ _ _ _ p v e => by cases e; rfl); exact ⟨_, fd, F, glo_ok X G (fa_at c 40), b1, b2⟩
theorem t_S_l_heard (X : K.In h) (G : h.Ns mainGlobals mg) (cc : obsA fb fnL K = valA fnL) : Src K mg "_law_heard" s_l_heard ["_law_call"] := by
  have c : fb K = true := says_b cc
  obtain ⟨fd, F⟩ := says_d cc 18; obtain ⟨b1, b2⟩ := two_of (ps := ["_law_call"]) F (fun _ _ _ _ _ _ us hl => match us, hl with | [_], _ => rfl) (fun _ _ _ _ _ _ p v e => by cases e; rfl); exact ⟨_, fd, F, glo_ok X G (fa_at c 41), b1, b2⟩
theorem t_S_l_odd (X : K.In h) (G : h.Ns mainGlobals mg) (cc : obsA fb fnL K = valA fnL) : Src K mg "_law_odd" s_l_odd ["_law_pot_here", "_law_part"] := by
  have c : fb K = true := says_b cc
  obtain ⟨fd, F⟩ := says_d cc 19; obtain ⟨b1, b2⟩ := two_of (ps := ["_law_pot_here", "_law_part"]) F (fun _ _ _ _ _ _ us hl => match us, hl with | [_, _], _ => rfl) (fun _ _ _ _ _ _ p v e => by cases e); exact ⟨_, fd, F, glo_ok X G (fa_at c 42), b1, b2⟩
theorem t_S_l_both_right (X : K.In h) (G : h.Ns mainGlobals mg) (cc : obsA fb fnL K = valA fnL) : Src K mg "_law_both_right" s_l_both_right ["_law_some", "_law_due"] := by
  have c : fb K = true := says_b cc
  obtain ⟨fd, F⟩ := says_d cc 20; obtain ⟨b1, b2⟩ := two_of (ps := ["_law_some", "_law_due"]) F (fun _ _ _ _ _ _ us hl => match us, hl with | [_, _], _ => rfl) (fun _ _ _ _ _ _ p v e => by cases e); exact ⟨_, fd, F, glo_ok X G (fa_at c 43), b1, b2⟩
theorem t_S_l_spoilt_right (X : K.In h) (G : h.Ns mainGlobals mg) (cc : obsA fb fnL K = valA fnL) : Src K mg "_law_spoilt_right" s_l_spoilt_right ["_law_pot_here", "_law_some"] := by
  have c : fb K = true := says_b cc
  obtain ⟨fd, F⟩ := says_d cc 21; obtain ⟨b1, b2⟩ := two_of (ps := ["_law_pot_here", "_law_some"]) F (fun _ _ _ _ _ _ us hl => match us, hl with | [_, _], _ => rfl) (fun _ _ _ _ _ _ p v e => by cases e); exact ⟨_, fd, F, glo_ok X G (fa_at c 44), b1, b2⟩
theorem t_S_l_far_right (X : K.In h) (G : h.Ns mainGlobals mg) (cc : obsA fb fnL K = valA fnL) : Src K mg "_law_far_right" s_l_far_right ["_law_pot_here", "_law_some"] := by
  have c : fb K = true := says_b cc
  obtain ⟨fd, F⟩ := says_d cc 22; obtain ⟨b1, b2⟩ := two_of (ps := ["_law_pot_here", "_law_some"]) F (fun _ _ _ _ _ _ us hl => match us, hl with | [_, _], _ => rfl) (fun _ _ _ _ _ _ p v e => by cases e); exact ⟨_, fd, F, glo_ok X G (fa_at c 45), b1, b2⟩
theorem t_S_l_few_right (X : K.In h) (G : h.Ns mainGlobals mg) (cc : obsA fb fnL K = valA fnL) : Src K mg "_law_few_right" s_l_few_right ["_law_some"] := by
  have c : fb K = true := says_b cc
  obtain ⟨fd, F⟩ := says_d cc 23; obtain ⟨b1, b2⟩ := two_of (ps := ["_law_some"]) F (fun _ _ _ _ _ _ us hl => match us, hl with | [_], _ => rfl) (fun _ _ _ _ _ _ p v e => by cases e; rfl); exact ⟨_, fd, F, glo_ok X G (fa_at c 46), b1, b2⟩
theorem t_S_l_right (X : K.In h) (G : h.Ns mainGlobals mg) (cc : obsA fb fnL K = valA fnL) : Src K mg "_law_right" s_l_right ["_law_pot_here"] := by
  have c : fb K = true := says_b cc
  obtain ⟨fd, F⟩ := says_d cc 24; obtain ⟨b1, b2⟩ := two_of (ps := ["_law_pot_here"]) F (fun _ _ _ _ _ _ us hl => match us, hl with | [_], _ => rfl) (fun _ _ _ _ _ _ p v e => by cases e; rfl); exact ⟨_, fd, F, glo_ok X G (fa_at c 47), b1, b2⟩
theorem t_S_law (X : K.In h) (G : h.Ns mainGlobals mg) (cc : obsA fb fnL K = valA fnL) : Src K mg "law" s_law ["_law_script"] := by
  have c : fb K = true := says_b cc
  obtain ⟨fd, F⟩ := says_d cc 25; obtain ⟨b1, b2⟩ := two_of (ps := ["_law_script"]) F (fun _ _ _ _ _ _ us hl => match us, hl with | [_], _ => rfl) (fun _ _ _ _ _ _ p v e => by cases e; rfl); exact ⟨_, fd, F, glo_ok X G (fa_at c 48), b1, b2⟩
theorem t_g_Kind (X : K.In h) (G : h.Ns mainGlobals mg) (cc : obsA fb fnL K = valA fnL) : mg "Kind" = some (.ref (kc K)) := by
  have c : fb K = true := says_b cc
  exact glo_ok X G (fa_at c 49)
theorem t_cls (X : K.In h) (G : h.Ns mainGlobals mg) (cc : obsA fb fnL K = valA fnL) : Cls K (kc K) := by
  have c : fb K = true := says_b cc
  exact cls_ok (x := "Kind") (fa_at c 54)
theorem t_maker (X : K.In h) (G : h.Ns mainGlobals mg) (cc : obsA fb fnL K = valA fnL) : Mk K (kc K) (He.ma K (kc K) "__init__") := by
  have c : fb K = true := says_b cc
  exact mkr_ok (x := "Kind") (fa_at c 55)
theorem t_cr (X : K.In h) (G : h.Ns mainGlobals mg) (cc : obsA fb fnL K = valA fnL) : ∃ mc, ClX.CRead K (kc K) mc ∧ (∃ p, CSta K (kc K) mc "of" p (Kd.st K "of")) ∧ (∃ u, ClX.CVal K (kc K) mc "MOST_ENTRIES" (.int 6) u) ∧ (∃ u, ClX.CVal K (kc K) mc "MOST_REACH" (.int 3) u) := by
  have c : fb K = true := says_b cc
  obtain ⟨s1, s2, s3⟩ := cst_ok (C := kc K) (m := "of") (fb_at c 2)
  exact ⟨_, crd_ok (fb_at c 1), ⟨_, s1, s2, s3⟩, cvi_ok (fb_at c 3), cvi_ok (fb_at c 4)⟩
theorem t_m_entries (X : K.In h) (G : h.Ns mainGlobals mg) (cc : obsA fb fnL K = valA fnL) : Meth K (kc K) "entries" (He.ma K (kc K) "entries") := by
  have c : fb K = true := says_b cc
  exact meth_ok (x := "Kind") (m := "entries") (fa_at c 56)
theorem t_f___eq__ (X : K.In h) (G : h.Ns mainGlobals mg) (cc : obsA fb fnL K = valA fnL) : PySem.W.findIn K (.ref (kc K)) "__eq__" = some (some (.ref (He.ma K (kc K) "__eq__"))) := by
  have c : fb K = true := says_b cc
  exact (dun_ok (C := kc K) (m := "__eq__") (fb_at c 5)).1
theorem t_i___eq__ (X : K.In h) (G : h.Ns mainGlobals mg) (cc : obsA fb fnL K = valA fnL) : PySem.W.isFn K (.ref (He.ma K (kc K) "__eq__")) = true := by
  have c : fb K = true := says_b cc
  exact (dun_ok (C := kc K) (m := "__eq__") (fb_at c 5)).2
theorem t_ne (X : K.In h) (G : h.Ns mainGlobals mg) (cc : obsA fb fnL K = valA fnL) : PySem.W.findIn K (.ref (kc K)) "__ne__" = some (some (.builtin "object.__ne__")) := by
  have c : fb K = true := says_b cc
  exact eqO_ok (fb_at c 18)
theorem t_mo (X : K.In h) (G : h.Ns mainGlobals mg) (cc : obsA fb fnL K = valA fnL) : PySem.W.mroIn K (kc K) (.type "object") = some true := by
  have c : fb K = true := says_b cc
  exact of_decide_eq_true (fb_at c 19)
theorem t_no_entries (X : K.In h) (G : h.Ns mainGlobals mg) (cc : obsA fb fnL K = valA fnL) : NoAttr K (kc K) "_entries" := by
  have c : fb K = true := says_b cc
  exact noat_ok (x := "Kind") (f := "_entries") (fa_at c 57)
theorem t_no_reach (X : K.In h) (G : h.Ns mainGlobals mg) (cc : obsA fb fnL K = valA fnL) : NoAttr K (kc K) "_reach" := by
  have c : fb K = true := says_b cc
  exact noat_ok (x := "Kind") (f := "_reach") (fa_at c 58)
theorem t_M_of (X : K.In h) (G : h.Ns mainGlobals mg) (cc : obsA fb fnL K = valA fnL) : Ms K "of" "Kind.of" s_Kind_of (Kd.st K "of") ["entries"] := by
  have c : fb K = true := says_b cc
  obtain ⟨fd, F⟩ := says_d cc 26; obtain ⟨b1, b2⟩ := two_of (ps := ["entries"]) F (fun _ _ _ _ _ _ us hl => match us, hl with | [_], _ => rfl) (fun _ _ _ _ _ _ p v e => by cases e; rfl); exact ⟨fd, F, b1, b2⟩
theorem t_M_entries (X : K.In h) (G : h.Ns mainGlobals mg) (cc : obsA fb fnL K = valA fnL) : Ms K "entries" "Kind.entries" s_Kind_entries (He.ma K (kc K) "entries") ["self"] := by
  have c : fb K = true := says_b cc
  obtain ⟨fd, F⟩ := says_d cc 27; obtain ⟨b1, b2⟩ := two_of (ps := ["self"]) F (fun _ _ _ _ _ _ us hl => match us, hl with | [_], _ => rfl) (fun _ _ _ _ _ _ p v e => by cases e; rfl); exact ⟨fd, F, b1, b2⟩
theorem t_M___eq__ (X : K.In h) (G : h.Ns mainGlobals mg) (cc : obsA fb fnL K = valA fnL) : Ms K "__eq__" "Kind.__eq__" s_Kind___eq (He.ma K (kc K) "__eq__") ["self", "other"] := by
  have c : fb K = true := says_b cc
  obtain ⟨fd, F⟩ := says_d cc 28; obtain ⟨b1, b2⟩ := two_of (ps := ["self", "other"]) F (fun _ _ _ _ _ _ us hl => match us, hl with | [_, _], _ => rfl) (fun _ _ _ _ _ _ p v e => by cases e); exact ⟨fd, F, b1, b2⟩
theorem t_M___init__ (X : K.In h) (G : h.Ns mainGlobals mg) (cc : obsA fb fnL K = valA fnL) : ∃ fd, Fun K "__init__" "Kind.__init__" s_Kind___init (He.ma K (kc K) "__init__") fd := by
  have c : fb K = true := says_b cc
  exact says_d cc 29
theorem t_kt (X : K.In h) (G : h.Ns mainGlobals mg) (cc : obsA fb fnL K = valA fnL) : ∀ n ∈ Ty7, PySem.W.kitOne K (.type n) (.ref (kc K)) = some false ∧ PySem.W.kitOne K (.ref (kc K)) (.type n) = some false ∧ PySem.W.notFirst K (kc K) (.type n) = true := by
  have c : fb K = true := says_b cc
  exact kt_ok (fb_at c 20)
theorem t_kk (X : K.In h) (G : h.Ns mainGlobals mg) (cc : obsA fb fnL K = valA fnL) : PySem.W.kitOne K (.ref (kc K)) (.ref (kc K)) = some true := by
  have c : fb K = true := says_b cc
  exact of_decide_eq_true (fb_at c 21)
theorem t_ca (X : K.In h) (G : h.Ns mainGlobals mg) (cc : obsA fb fnL K = valA fnL) : PySem.W.findIn K (.ref (kc K)) "__class__" = some (some (.builtin "object.__class__")) := by
  have c : fb K = true := says_b cc
  exact eqO_ok (fb_at c 22)
theorem t_cn (X : K.In h) (G : h.Ns mainGlobals mg) (cc : obsA fb fnL K = valA fnL) : PySem.W.specialIn K (.builtin "object.__class__") "__get__" = some (some (.builtin "getset_descriptor.__get__")) := by
  have c : fb K = true := says_b cc
  exact of_decide_eq_true (fb_at c 23)
theorem t_ct (X : K.In h) (G : h.Ns mainGlobals mg) (cc : obsA fb fnL K = valA fnL) : PySem.W.takesIn K (.builtin "object.__class__") = some true := by
  have c : fb K = true := says_b cc
  exact of_decide_eq_true (fb_at c 24)
theorem t_e_InvalidEntries (X : K.In h) (G : h.Ns mainGlobals mg) (cc : obsA fb fnL K = valA fnL) : ∀ P w base, Exv.Ec P w K mg base "InvalidEntries" (He.ga K "InvalidEntries") "ValueError.__new__" [.type "ValueError", .type "Exception", .type "BaseException", .type "object"] ["self", "position"] 1 (Exv.mk1 "position") := by
  have c : fb K = true := says_b cc
  obtain ⟨fd, F⟩ := says_d cc 30
  exact fun P w base => ec_of (glo_ok X G (fa_at c 50)) (cl_ok X (fb_at c 6)) (fb_at c 8) F (Exv.init1 Exv.bsV F sci_InvalidEntries rfl (by decide) (by decide) (cl_ok X (fb_at c 6)) (noat_ok (x := "InvalidEntries") (f := "position") (fa_at c 59)) (fun _ => rfl)) (fun _ _ _ _ _ _ us hl => match us, hl with | [_, _], _ => rfl) (fun _ _ _ _ _ _ s0 ws hl ks e => by match ws, hl with | [_], _ => rw [List.append_cancel_right (bs := [("self" : Str)]) (as := ks) (cs := ["position"]) e]; rfl)
theorem t_g_InvalidEntries (X : K.In h) (G : h.Ns mainGlobals mg) (cc : obsA fb fnL K = valA fnL) : mg "InvalidEntries" = some (.ref (He.ga K "InvalidEntries")) := by
  have c : fb K = true := says_b cc
  exact glo_ok X G (fa_at c 50)
theorem t_g_LineError (X : K.In h) (G : h.Ns mainGlobals mg) (cc : obsA fb fnL K = valA fnL) : mg "LineError" = some (.ref (He.ga K "LineError")) := by
  have c : fb K = true := says_b cc
  exact glo_ok X G (fa_at c 52)
theorem t_no_InvalidEntries_position (X : K.In h) (G : h.Ns mainGlobals mg) (cc : obsA fb fnL K = valA fnL) : PySem.W.findIn K (.ref (He.ga K "InvalidEntries")) "position" = some none := by
  have c : fb K = true := says_b cc
  exact noat_ok (x := "InvalidEntries") (f := "position") (fa_at c 59)
theorem t_ki_InvalidEntries (X : K.In h) (G : h.Ns mainGlobals mg) (cc : obsA fb fnL K = valA fnL) : PySem.W.kitOne K (.ref (He.ga K "InvalidEntries")) (.ref (He.ga K "LineError")) = some true := by
  have c : fb K = true := says_b cc
  exact of_decide_eq_true (fb_at c 10)
theorem t_e_TooMany (X : K.In h) (G : h.Ns mainGlobals mg) (cc : obsA fb fnL K = valA fnL) : ∀ P w base, Exv.Ec P w K mg base "TooMany" (He.ga K "TooMany") "ArithmeticError.__new__" [.type "ArithmeticError", .type "Exception", .type "BaseException", .type "object"] ["self", "what", "limit"] 2 (Exv.mk2 "what" "limit") := by
  have c : fb K = true := says_b cc
  obtain ⟨fd, F⟩ := says_d cc 31
  exact fun P w base => ec_of (glo_ok X G (fa_at c 51)) (cl_ok X (fb_at c 7)) (fb_at c 9) F (Exv.init2 Exv.bsA F sci_TooMany rfl (by decide) (by decide) (by decide) (by decide) (cl_ok X (fb_at c 7)) (noat_ok (x := "TooMany") (f := "what") (fa_at c 60)) (noat_ok (x := "TooMany") (f := "limit") (fa_at c 61)) (fun _ => rfl) (fun _ => rfl)) (fun _ _ _ _ _ _ us hl => match us, hl with | [_, _, _], _ => rfl) (fun _ _ _ _ _ _ s0 ws hl ks e => by match ws, hl with | [_, _], _ => rw [List.append_cancel_right (bs := [("self" : Str)]) (as := ks) (cs := ["limit", "what"]) e]; rfl)
theorem t_g_TooMany (X : K.In h) (G : h.Ns mainGlobals mg) (cc : obsA fb fnL K = valA fnL) : mg "TooMany" = some (.ref (He.ga K "TooMany")) := by
  have c : fb K = true := says_b cc
  exact glo_ok X G (fa_at c 51)
theorem t_g_LimitError (X : K.In h) (G : h.Ns mainGlobals mg) (cc : obsA fb fnL K = valA fnL) : mg "LimitError" = some (.ref (He.ga K "LimitError")) := by
  have c : fb K = true := says_b cc
  exact glo_ok X G (fa_at c 53)
theorem t_no_TooMany_what (X : K.In h) (G : h.Ns mainGlobals mg) (cc : obsA fb fnL K = valA fnL) : PySem.W.findIn K (.ref (He.ga K "TooMany")) "what" = some none := by
  have c : fb K = true := says_b cc
  exact noat_ok (x := "TooMany") (f := "what") (fa_at c 60)
theorem t_no_TooMany_limit (X : K.In h) (G : h.Ns mainGlobals mg) (cc : obsA fb fnL K = valA fnL) : PySem.W.findIn K (.ref (He.ga K "TooMany")) "limit" = some none := by
  have c : fb K = true := says_b cc
  exact noat_ok (x := "TooMany") (f := "limit") (fa_at c 61)
theorem t_ki_TooMany (X : K.In h) (G : h.Ns mainGlobals mg) (cc : obsA fb fnL K = valA fnL) : PySem.W.kitOne K (.ref (He.ga K "TooMany")) (.ref (He.ga K "LimitError")) = some true := by
  have c : fb K = true := says_b cc
  exact of_decide_eq_true (fb_at c 11)
theorem t_x_ii (X : K.In h) (G : h.Ns mainGlobals mg) (cc : obsA fb fnL K = valA fnL) : PySem.W.exmOne K (.ref (He.ga K "InvalidEntries")) (.ref (He.ga K "InvalidEntries")) = some true := by
  have c : fb K = true := says_b cc
  exact of_decide_eq_true (fb_at c 12)
theorem t_x_ti (X : K.In h) (G : h.Ns mainGlobals mg) (cc : obsA fb fnL K = valA fnL) : PySem.W.exmOne K (.ref (He.ga K "TooMany")) (.ref (He.ga K "InvalidEntries")) = some false := by
  have c : fb K = true := says_b cc
  exact of_decide_eq_true (fb_at c 13)
theorem t_x_tt (X : K.In h) (G : h.Ns mainGlobals mg) (cc : obsA fb fnL K = valA fnL) : PySem.W.exmOne K (.ref (He.ga K "TooMany")) (.ref (He.ga K "TooMany")) = some true := by
  have c : fb K = true := says_b cc
  exact of_decide_eq_true (fb_at c 14)
theorem txt (X : K.In h) (G : h.Ns mainGlobals mg) (cc : obsA fb fnL K = valA fnL) : Txt K mg := {
    n_len := t_n_len X G cc,
    n_int := t_n_int X G cc,
    n_abs := t_n_abs X G cc,
    n_max := t_n_max X G cc,
    n_min := t_n_min X G cc,
    n_divmod := t_n_divmod X G cc,
    n_isinstance := t_n_isinstance X G cc,
    n_bool := t_n_bool X G cc,
    n_str := t_n_str X G cc,
    n_repr := t_n_repr X G cc,
    n_range := t_n_range X G cc,
    n_all := t_n_all X G cc,
    n_any := t_n_any X G cc,
    n_tuple := t_n_tuple X G cc,
    n_list := t_n_list X G cc,
    n_sorted := t_n_sorted X G cc,
    n_set := t_n_set X G cc,
    n_enumerate := t_n_enumerate X G cc,
    c_MOST_LETTERS := t_c_MOST_LETTERS X G cc,
    c_FARTHEST := t_c_FARTHEST X G cc,
    c_FEWEST_ENTRIES := t_c_FEWEST_ENTRIES X G cc,
    S_is_integer := t_S_is_integer X G cc,
    S_is_name := t_S_is_name X G cc,
    S_is_list := t_S_is_list X G cc,
    S_in_order := t_S_in_order X G cc,
    S_merged := t_S_merged X G cc,
    S_is_distance := t_S_is_distance X G cc,
    S_is_entry := t_S_is_entry X G cc,
    S_check_entries := t_S_check_entries X G cc,
    S_normed := t_S_normed X G cc,
    S_reach_of := t_S_reach_of X G cc,
    S_check_reach := t_S_check_reach X G cc,
    S_l_pot := t_S_l_pot X G cc,
    S_l_draw := t_S_l_draw X G cc,
    S_l_among := t_S_l_among X G cc,
    S_l_names := t_S_l_names X G cc,
    S_l_normed := t_S_l_normed X G cc,
    S_l_entries := t_S_l_entries X G cc,
    S_l_kind := t_S_l_kind X G cc,
    S_l_heard := t_S_l_heard X G cc,
    S_l_odd := t_S_l_odd X G cc,
    S_l_both_right := t_S_l_both_right X G cc,
    S_l_spoilt_right := t_S_l_spoilt_right X G cc,
    S_l_far_right := t_S_l_far_right X G cc,
    S_l_few_right := t_S_l_few_right X G cc,
    S_l_right := t_S_l_right X G cc,
    S_law := t_S_law X G cc,
    g_Kind := t_g_Kind X G cc,
    cls := t_cls X G cc,
    maker := t_maker X G cc,
    cr := t_cr X G cc,
    m_entries := t_m_entries X G cc,
    f___eq__ := t_f___eq__ X G cc,
    i___eq__ := t_i___eq__ X G cc,
    ne := t_ne X G cc,
    mo := t_mo X G cc,
    no_entries := t_no_entries X G cc,
    no_reach := t_no_reach X G cc,
    M_of := t_M_of X G cc,
    M_entries := t_M_entries X G cc,
    M___eq__ := t_M___eq__ X G cc,
    M___init__ := t_M___init__ X G cc,
    kt := t_kt X G cc,
    kk := t_kk X G cc,
    ca := t_ca X G cc,
    cn := t_cn X G cc,
    ct := t_ct X G cc,
    e_InvalidEntries := t_e_InvalidEntries X G cc,
    g_InvalidEntries := t_g_InvalidEntries X G cc,
    g_LineError := t_g_LineError X G cc,
    no_InvalidEntries_position := t_no_InvalidEntries_position X G cc,
    ki_InvalidEntries := t_ki_InvalidEntries X G cc,
    e_TooMany := t_e_TooMany X G cc,
    g_TooMany := t_g_TooMany X G cc,
    g_LimitError := t_g_LimitError X G cc,
    no_TooMany_what := t_no_TooMany_what X G cc,
    no_TooMany_limit := t_no_TooMany_limit X G cc,
    ki_TooMany := t_ki_TooMany X G cc,
    x_ii := t_x_ii X G cc,
    x_ti := t_x_ti X G cc,
    x_tt := t_x_tt X G cc }
def tbs (K : PySem.W.Frag) : Tbs := ⟨(cT K ("_law_both_right", none)).1, (cT K ("_law_both_right", none)).2, (cT K ("_law_few_right", none)).1, (cT K ("_law_few_right", none)).2, (cT K ("_law_right", none)).1, (cT K ("_law_right", none)).2⟩
def cts (K : PySem.W.Frag) : List (Addr × Addr) := tfL.map (cT K)
theorem txT {base : Heap} (X : K.In h) (G : h.Ns mainGlobals mg) (cc : obsA fb fnL K = valA fnL) (TB : ∀ p ∈ cts K, TabB base mg p.1 p.2) : TxT K mg base (tbs K) := by
  have c : fb K = true := says_b cc
  have at_ : ∀ p ∈ tfL, TabB base mg (cT K p).1 (cT K p).2 := fun p hp => TB _ (List.mem_map.mpr ⟨p, hp, rfl⟩)
  refine ⟨txt X G cc, ?_, ?_, ?_, of_decide_eq_true (fb_at c 15), of_decide_eq_true (fb_at c 16), of_decide_eq_true (fb_at c 17)⟩
  · obtain ⟨fd, F⟩ := says_d cc 20; obtain ⟨b1, b2⟩ := two_of (ps := ["_law_some", "_law_due"]) F (fun _ _ _ _ _ _ us hl => match us, hl with | [_, _], _ => rfl) (fun _ _ _ _ _ _ p v e => by cases e); exact ⟨_, fd, F, glo_ok X G (fa_at c 43), b1, b2, code_at (p := ("_law_both_right", none)) F, at_ _ (by decide)⟩
  · obtain ⟨fd, F⟩ := says_d cc 23; obtain ⟨b1, b2⟩ := two_of (ps := ["_law_some"]) F (fun _ _ _ _ _ _ us hl => match us, hl with | [_], _ => rfl) (fun _ _ _ _ _ _ p v e => by cases e; rfl); exact ⟨_, fd, F, glo_ok X G (fa_at c 46), b1, b2, code_at (p := ("_law_few_right", none)) F, at_ _ (by decide)⟩
  · obtain ⟨fd, F⟩ := says_d cc 24; obtain ⟨b1, b2⟩ := two_of (ps := ["_law_pot_here"]) F (fun _ _ _ _ _ _ us hl => match us, hl with | [_], _ => rfl) (fun _ _ _ _ _ _ p v e => by cases e; rfl); exact ⟨_, fd, F, glo_ok X G (fa_at c 47), b1, b2, code_at (p := ("_law_right", none)) F, at_ _ (by decide)⟩
theorem tabs_void {H : Hp} (h : ∀ p ∈ tfL, H (cT K p).2 = some (.tbl #[])) : Tabs (tbs K).l H := by
  intro p hp
  simp only [Tbs.l, List.mem_cons, List.not_mem_nil, or_false] at hp
  rcases hp with rfl | rfl | rfl
  · exact ⟨#[], h ("_law_both_right", none) (by decide), trivial, fun pos cv z => by cases z⟩
  · exact ⟨#[], h ("_law_few_right", none) (by decide), trivial, fun pos cv z => by cases z⟩
  · exact ⟨#[], h ("_law_right", none) (by decide), trivial, fun pos cv z => by cases z⟩
end
end K13

set_option Elab.async false
set_option linter.all false
set_option maxRecDepth 100000
set_option maxHeartbeats 0
namespace K13
open PySem L2 Lay He Hd Ha Ht
theorem run (w : World) : HandSHeadRun.RunEq R (PySem.W.view R.prog [42]) hk ob 9600 looseL w := by
  intro os
  kernel_rfl
end K13

set_option Elab.async false
set_option linter.all false
set_option maxRecDepth 100000
set_option maxHeartbeats 4000000
namespace K13
open PySem L2 Lay Own SrtO LamX
local macro_rules | `(tactic| walk_at "ne") => `(tactic| first | assumption | (apply Ne.symm; assumption) | exact ne_of_none (by walk_at "look") (by assumption) | exact (ne_of_none (by walk_at "look") (by assumption)).symm)
local macro_rules | `(tactic| walk_at "look") => `(tactic| first | assumption | exact upd_same | (refine Eq.trans (upd_ne ?_) ?_; walk_at "ne"; walk_at "look"))
local macro_rules | `(tactic| walk_at "rds") => `(tactic| first | rfl | assumption | walk_at "look" | exact SqL.of (by walk_at "look") | exact SqT.of (by walk_at "look") | exact Or.inl (SqL.of (by walk_at "look")) | exact Or.inl (by assumption) | decide | omega | exact Nat.le_of_ble_eq_true rfl | exact Or.inr ⟨by decide, by decide⟩ | exact Or.inl ⟨by omega, by omega⟩ | exact ⟨by decide, by decide⟩)
local macro_rules | `(tactic| walk_at "rd1") => `(tactic| first | (apply Exists.intro) | (refine And.intro ?_ ?_; walk_at "rds") | (refine Or.inl ?_; apply Exists.intro; refine And.intro ?_ ?_; rfl))
local macro_rules | `(tactic| walk_at "rd") => `(tactic| repeat walk_at "rd1")
section
variable {P : Program} {w : World} {K : PySem.W.Frag} {mg : Str → Option Value} {base : Heap} {t : Tbs}
theorem call_list_ofK {cx : Cx} {C : PySem.W.Frag} (h : cx.K = C) : CallR cx (.type "list") (fun xs H Q => ∃ p ys, xs = [.ref p] ∧ (SqL C H p ys ∨ SqT C H p ys) ∧ ∀ l, H l = none → Q (.ref l) (upd H l (.lst ys))) := h ▸ call_list_of
theorem call_tuple_ofK {cx : Cx} {C : PySem.W.Frag} (h : cx.K = C) : CallR cx (.type "tuple") (fun xs H Q => ∃ p ys, xs = [.ref p] ∧ ((SqL C H p ys ∧ ∀ l, H l = none → Q (.ref l) (upd H l (.tup ys))) ∨ (SqT C H p ys ∧ Q (.ref p) H))) := h ▸ call_tuple_of
def spBoth (K : PySem.W.Frag) (t : Tbs) : Sp := fun vs H Q _ => ∃ a b xs oc, vs = [.ref a, .ref b] ∧ H a = some (.lst xs) ∧ 2 ≤ xs.length ∧ xs.length ≤ 6 ∧ Ls K H xs oc ∧ isErr oc ∧ H b = some (.lst (dueL oc)) ∧ a ≠ b ∧ Tabs t.l H ∧
  (∃ as ts, Rp.SwL K H as xs ts ∧ a ∉ as ∧ as.length ≤ 30 ∧ (listText ts).length ≤ sizeLine) ∧ ∀ H', ExtN H H' → Tabs t.l H' → Q (.bl true) H'
/-- what is told so far -/
structure Hd (H0 H' : Hp) (t : Tbs) (oc : Oc) (td : Addr) (ls : List Addr) : Prop where
  e : ExtN H0 H'
  T : Tabs t.l H'
  nt : ∀ b o, H0 b = some o → (∀ ps, o ≠ .tbl ps) → b ≠ td
  ht : H' td = some (.lst (ls.map V.ref))
  hl : ∀ l ∈ ls, H' l = some (.lst (dueL oc)) ∧ l ≠ td
theorem tabs_mut {Tl : List (Addr × Str)} {H : Hp} {a : Addr} {xs ys : List V} (h : Tabs Tl H) (ha : H a = some (.lst xs)) : Tabs Tl (upd H a (.lst ys)) := by
  intro p hp
  obtain ⟨qs, h1, h2, h3⟩ := h p hp
  refine ⟨qs, (upd_ne fun z => by rw [z, ha] at h1; cases h1).trans h1, h2, fun pos cv hc => ?_⟩
  obtain ⟨c, e1, e2⟩ := h3 pos cv hc
  exact ⟨c, e1, (upd_ne fun z => by rw [z, ha] at e2; unfold CodeO at e2; cases e2).trans e2⟩
theorem Hd.step {H0 H1 H2 : Hp} {oc : Oc} {td l : Addr} {ls : List Addr} (h : Hd H0 H1 t oc td ls) (e : ExtN H1 H2) (T2 : Tabs t.l H2) (nl : ∀ b o, H1 b = some o → (∀ ps, o ≠ .tbl ps) → b ≠ l) (hl : H2 l = some (.lst (dueL oc))) :
    H2 td = some (.lst (ls.map V.ref)) ∧ Hd H0 (upd H2 td (.lst (ls.map V.ref ++ [V.ref l]))) t oc td (ls ++ [l]) := by
  have h2 := e _ _ h.ht fun ps z => by cases z
  have ntl : td ≠ l := nl _ _ h.ht fun ps z => by cases z
  refine ⟨h2, ⟨fun b o hb np => ?_, tabs_mut T2 h2, h.nt, by rw [upd_same, List.map_append]; rfl, fun m hm => ?_⟩⟩
  · rw [upd_ne (h.nt _ _ hb np)]
    exact e _ _ (h.e _ _ hb np) np
  · rcases List.mem_append.mp hm with hm | hm
    · obtain ⟨q1, q2⟩ := h.hl m hm
      refine ⟨?_, q2⟩
      rw [upd_ne q2]
      exact e _ _ q1 fun ps z => by cases z
    · obtain rfl := List.mem_singleton.mp hm
      exact ⟨by rw [upd_ne (fun z => ntl z.symm)]; exact hl, fun z => ntl z.symm⟩
/-- the data of an error's list -/
def dueD : Oc → List PyData
  | .pos (.int i) => [.str "entries", .int i, .bool true]
  | .pos _ => [.str "entries", .none, .bool true]
  | .many z => [.str "many", .str z, .int 3, .bool true]
  | .ok _ => []
theorem due_dp {H H1 : Hp} {xs : List V} {oc : Oc} (ls : Ls K H xs oc) : DpAll K H1 (dueL oc) (dueD oc) := by
  cases ls with
  | few h => exact .cons (.str _) (.cons .non (.cons (.bl _) .nil))
  | bad l0 l1 el ok nd hx b => exact .cons (.str _) (.cons (.int _) (.cons (.bl _) .nil))
  | across el ok h => exact .cons (.str _) (.cons (.str _) (.cons (.int _) (.cons (.bl _) .nil)))
  | up el ok h => exact .cons (.str _) (.cons (.str _) (.cons (.int _) (.cons (.bl _) .nil)))
  | good el ok h => exact .nil
theorem due_eq {H : Hp} {xs : List V} {oc : Oc} (ls : Ls K H xs oc) (ne : isErr oc) : PyData.eqv (.list [.list (dueD oc), .list (dueD oc), .list (dueD oc), .list (dueD oc)]) (.list [.list (dueD oc), .list (dueD oc), .list (dueD oc), .list (dueD oc)]) = true ∧
    SeqAt.shaped (.list [.list (dueD oc), .list (dueD oc), .list (dueD oc), .list (dueD oc)]) = true := by
  cases ls with
  | few h => exact ⟨by decide +kernel, by decide +kernel⟩
  | @bad es i x l0 l1 el ok nd hx b =>
    have hi : i < 6 := by
      have := (List.getElem?_eq_some_iff.mp hx).1
      omega
    match i, hi with
    | 0, _ => exact ⟨by decide +kernel, by decide +kernel⟩
    | 1, _ => exact ⟨by decide +kernel, by decide +kernel⟩
    | 2, _ => exact ⟨by decide +kernel, by decide +kernel⟩
    | 3, _ => exact ⟨by decide +kernel, by decide +kernel⟩
    | 4, _ => exact ⟨by decide +kernel, by decide +kernel⟩
    | 5, _ => exact ⟨by decide +kernel, by decide +kernel⟩
  | across el ok h => exact ⟨by decide +kernel, by decide +kernel⟩
  | up el ok h => exact ⟨by decide +kernel, by decide +kernel⟩
  | good el ok h => exact ne.elim
theorem nt_lst {xs : List V} : ∀ ps, HO.lst xs ≠ .tbl ps := fun ps z => by cases z
theorem d_both (TT : TxT K mg base t) : Df P w K mg base 12 "_law_both_right" ["_law_some", "_law_due"] (spBoth K t) := by
  have T := TT.T
  have D_l_kind := d_kind (P := P) (w := w) (base := base) T
  obtain ⟨mc, cr, ⟨pst, cst⟩, _⟩ := T.cr
  obtain ⟨fdo, D_of, _, B_of⟩ := d_of (P := P) (w := w) (base := base) T
  refine TT.b.by sc_l_both_right (fun vs H Q E h => ?_) (fun TB f A outer s H vs Q E hr hgd h => ?_)
  · obtain ⟨a, b, xs, oc, rfl, _⟩ := h; rfl
  · obtain ⟨a, b, xs, oc, rfl, ha, l0, l1, ls, ne, hb, nab', tb, ⟨as, ts, sw, na, la, lt⟩, k⟩ := h
    have hmT : (t.P1, lq "_law_both_right") ∈ t.l := by simp [Tbs.l]
    have hu := TT.u1
    refine ⟨_, (pss_cons (ps_set (i := 2) sc_l_both_right.nd rfl (by first | exact Or.inl rfl | exact Or.inr rfl) (pe_callB  (Rp.call_repr hgd (un200 hr)) (by rfl) T.n_repr (by decide +kernel) (pa_cons (pv 0) pa_nil)))
      (pss_cons (ps_set (i := 3) sc_l_both_right.nd rfl (by first | exact Or.inl rfl | exact Or.inr rfl) (pe_lst (pa_cons (pe_heard (k := 9) T hgd TB rfl hmT hu (hr.mono (by first | decide | omega)) (LamX.lamS_by (sc := defScope s_l_both_right) (by decide +kernel)) rfl (fun _ _ _ _ _ => rfl) (fun A2 outer2 s2 H2 E2 f2 c2 hr2 hg2 => (Rx.pe_ownX Rx.takesL D_l_kind (hr2.mono (by first | decide | omega)) hg2 (pa_cons (pv 0) pa_nil)))) pa_nil)))
      (pss_cons (ps_expr (pe_bm PySem.F.plainAttrs_list PySem.F.slot_list_append PySem.F.type_list_append mt_append (pv 3) (pa_cons (pe_heard (k := 9) T hgd TB rfl hmT hu (hr.mono (by first | decide | omega)) (LamX.lamS_by (sc := defScope s_l_both_right) (by decide +kernel)) rfl (fun _ _ _ _ _ => rfl) (fun A2 outer2 s2 H2 E2 f2 c2 hr2 hg2 => (Rx.pe_staX Rx.takesL (pe_glob (v := .ref (He.ga K "Kind")) (by rfl) T.g_Kind rfl) cr cst (d_of (P := P) (w := w) (base := base) T).fp (hr2.mono (by first | decide | omega)) hg2 (pa_cons (pv 0) pa_nil)))) pa_nil)))
      (pss_cons (ps_expr (pe_bm PySem.F.plainAttrs_list PySem.F.slot_list_append PySem.F.type_list_append mt_append (pv 3) (pa_cons (pe_heard (k := 9) T hgd TB rfl hmT hu (hr.mono (by first | decide | omega)) (LamX.lamS_by (sc := defScope s_l_both_right) (by decide +kernel)) rfl (fun _ _ _ _ _ => rfl) (fun A2 outer2 s2 H2 E2 f2 c2 hr2 hg2 => (Rx.pe_staKX Rx.takesL (pe_glob (v := .ref (He.ga K "Kind")) (by rfl) T.g_Kind rfl) cr cst D_of B_of (hr2.mono (by first | decide | omega)) hg2 (pk_cons (pe_callTy  (call_tuple_ofK (C := K) rfl) (by rfl) T.n_tuple (by decide +kernel) (pa_cons (pv 0) pa_nil)) pk_nil)))) pa_nil)))
      (pss_cons (ps_expr (pe_bm PySem.F.plainAttrs_list PySem.F.slot_list_append PySem.F.type_list_append mt_append (pv 3) (pa_cons (pe_heard (k := 9) T hgd TB rfl hmT hu (hr.mono (by first | decide | omega)) (LamX.lamS_by (sc := defScope s_l_both_right) (by decide +kernel)) rfl (fun _ _ _ _ _ => rfl) (fun A2 outer2 s2 H2 E2 f2 c2 hr2 hg2 => (Rx.pe_staX Rx.takesL (pe_glob (v := .ref (He.ga K "Kind")) (by rfl) T.g_Kind rfl) cr cst (d_of (P := P) (w := w) (base := base) T).fp (hr2.mono (by first | decide | omega)) hg2 (pa_cons (pe_callTy  (call_list_ofK (C := K) rfl) (by rfl) T.n_list (by decide +kernel) (pa_cons (pv 0) pa_nil)) pa_nil)))) pa_nil)))
      (pss_one (ps_ret (pe_and (pe_cmpR (op_eqD (un64 hr)) (pv 3) (pe_op op_rep (pe_lst (pa_cons (pv 1) pa_nil)) pe_int) (nomark _)) (pe_one (pe_cmpR op_eq (pe_callB  (Rp.call_repr hgd (un200 hr)) (by rfl) T.n_repr (by decide +kernel) (pa_cons (pv 0) pa_nil)) (pv 2) (nomark _))))))))))), ?_⟩
    have lx : xs.length ≤ 1000 := by omega
    have nx : xs ≠ [] := fun z => by rw [z] at l0; simp at l0
    refine ⟨_, rfl, a, as, xs, ts, rfl, ha, sw, nx, na, la, lt, ?_⟩
    refine lam_use tb ne (fun E2 R H2 eN td => ⟨_, rfl, a, xs, oc, rfl, eN _ _ ha nt_lst, l0, l1, ls.ext eN, td⟩) (fun r1 H3 e3 T3 nl1 hl1 => ?_)
    refine ⟨by show (1 : Nat) ≤ sizeLine; decide +kernel, fun td ntd => ?_⟩
    have sT := Same.new (o := .lst [.ref r1]) ntd
    have h4 : Hd H (upd H3 td (.lst [.ref r1])) t oc td [r1] := ⟨e3.trans (.of sT), T3.ext sT, (fun q o hq np z => by rw [z] at hq; have w := e3 _ _ hq np; rw [ntd] at w; cases w), upd_same, fun l hl => by
      obtain rfl := List.mem_singleton.mp hl
      exact ⟨sT _ _ hl1, ne_of_none hl1 ntd⟩⟩
    generalize upd H3 td (.lst [.ref r1]) = H4 at h4
    have ha4 := h4.e _ _ ha nt_lst
    refine ⟨_, rfl, ty_lst h4.ht, ?_⟩
    refine lam_use h4.T ne (fun E2 R H2 eN tl => ⟨rfl, _, rfl, .ref a, rfl, .inr ⟨a, xs, oc, rfl, .inl (eN _ _ ha4 nt_lst), lx, (ls.ext h4.e).ext eN, tl⟩⟩) (fun r2 H5 e5 T5 nl2 hl2 => ?_)
    obtain ⟨q5, h5⟩ := h4.step e5 T5 nl2 hl2
    refine ⟨td, _, .ref r2, rfl, rfl, q5, by show (1 : Nat) < sizeLine; decide +kernel, ?_⟩
    generalize upd H5 td (.lst ([r1].map V.ref ++ [V.ref r2])) = H6 at h5
    have ha6 := h5.e _ _ ha nt_lst
    refine ⟨_, rfl, ty_lst h5.ht, ?_⟩
    refine lam_use h5.T ne (fun E2 R H2 eN tl => ⟨rfl, _, rfl, a, xs, rfl, .inl ⟨SqL.of (eN _ _ ha6 nt_lst), fun tp ntp => ?_⟩⟩) (fun r3 H7 e7 T7 nl3 hl3 => ?_)
    · have sp := Same.new (o := .tup xs) ntp
      exact ⟨.ref tp, rfl, .inr ⟨tp, xs, oc, rfl, .inr upd_same, lx, ((ls.ext h5.e).ext eN).same sp, tl.same sp⟩⟩
    obtain ⟨q7, h7⟩ := h5.step e7 T7 nl3 hl3
    refine ⟨td, _, .ref r3, rfl, rfl, q7, by show (2 : Nat) < sizeLine; decide +kernel, ?_⟩
    generalize upd H7 td (.lst (([r1] ++ [r2]).map V.ref ++ [V.ref r3])) = H8 at h7
    have ha8 := h7.e _ _ ha nt_lst
    refine ⟨_, rfl, ty_lst h7.ht, ?_⟩
    refine lam_use h7.T ne (fun E2 R H2 eN tl => ⟨rfl, _, rfl, a, xs, rfl, .inl (SqL.of (eN _ _ ha8 nt_lst)), fun tp ntp => ?_⟩) (fun r4 H9 e9 T9 nl4 hl4 => ?_)
    · have sp := Same.new (o := .lst xs) ntp
      exact ⟨.ref tp, rfl, .inr ⟨tp, xs, oc, rfl, .inl upd_same, lx, ((ls.ext h7.e).ext eN).same sp, tl.same sp⟩⟩
    obtain ⟨q9, h9⟩ := h7.step e9 T9 nl4 hl4
    refine ⟨td, _, .ref r4, rfl, rfl, q9, by show (3 : Nat) < sizeLine; decide +kernel, ?_⟩
    generalize upd H9 td (.lst (([r1] ++ [r2] ++ [r3]).map V.ref ++ [V.ref r4])) = G at h9
    have hb9 := h9.e _ _ hb nt_lst
    have ha9 := h9.e _ _ ha nt_lst
    refine ⟨_, rfl, _, rfl, (by show (1 : Nat) ≤ sizeLine; decide +kernel), fun u nu => ?_⟩
    have su := Same.new (o := .lst [.ref b]) nu
    refine ⟨u, 4, [.ref b], rfl, rfl, upd_same, (by decide), (by decide), (by show (4 : Nat) ≤ sizeLine; decide +kernel), fun v nv => ?_⟩
    have sv := Same.new (o := .lst (List.replicate (4 : Int).toNat [V.ref b]).flatten) nv
    have suv := su.trans sv
    have dl : ∀ l ∈ [r1] ++ [r2] ++ [r3] ++ [r4], Dp K (upd (upd G u (.lst [.ref b])) v (.lst (List.replicate (4 : Int).toNat [V.ref b]).flatten)) (.ref l) (.list (dueD oc)) := fun l hl => .lst (SqL.of (suv _ _ (h9.hl l hl).1)) (due_dp ls)
    have db : Dp K (upd (upd G u (.lst [.ref b])) v (.lst (List.replicate (4 : Int).toNat [V.ref b]).flatten)) (.ref b) (.list (dueD oc)) := .lst (SqL.of (suv _ _ hb9)) (due_dp ls)
    obtain ⟨q1, q2⟩ := due_eq ls ne
    refine ⟨_, _, .lst (SqL.of (suv _ _ h9.ht)) (.cons (dl r1 (by simp)) (.cons (dl r2 (by simp)) (.cons (dl r3 (by simp)) (.cons (dl r4 (by simp)) .nil)))), .lst (SqL.of upd_same) (.cons db (.cons db (.cons db (.cons db .nil)))), q2, q2, ?_⟩
    rw [q1]
    refine ⟨_, rfl, iteT ?_⟩
    refine ⟨_, rfl, a, as, xs, ts, rfl, suv _ _ ha9, SwL_same suv (SwL_ext h9.e sw), nx, na, la, lt, ?_⟩
    refine ⟨_, rfl, rfl, ?_⟩
    rw [decide_eq_true rfl]
    exact k _ (h9.e.trans (.of suv)) (h9.T.ext suv)
end
end K13

set_option Elab.async false
set_option linter.all false
set_option maxRecDepth 100000
set_option maxHeartbeats 4000000
namespace K13
open PySem L2 Lay Own SrtO LamX
local macro_rules | `(tactic| walk_at "ne") => `(tactic| first | assumption | (apply Ne.symm; assumption) | exact ne_of_none (by walk_at "look") (by assumption) | exact (ne_of_none (by walk_at "look") (by assumption)).symm)
local macro_rules | `(tactic| walk_at "look") => `(tactic| first | assumption | exact upd_same | (refine Eq.trans (upd_ne ?_) ?_; walk_at "ne"; walk_at "look"))
local macro_rules | `(tactic| walk_at "rds") => `(tactic| first | rfl | assumption | walk_at "look" | exact SqL.of (by walk_at "look") | exact SqT.of (by walk_at "look") | exact Or.inl (SqL.of (by walk_at "look")) | exact Or.inl (by assumption) | decide | omega | exact Nat.le_of_ble_eq_true rfl | exact Or.inr ⟨by decide, by decide⟩ | exact Or.inl ⟨by omega, by omega⟩ | exact ⟨by decide, by decide⟩)
local macro_rules | `(tactic| walk_at "rd1") => `(tactic| first | (apply Exists.intro) | (refine And.intro ?_ ?_; walk_at "rds") | (refine Or.inl ?_; apply Exists.intro; refine And.intro ?_ ?_; rfl))
local macro_rules | `(tactic| walk_at "rd") => `(tactic| repeat walk_at "rd1")
section
variable {P : Program} {w : World} {K : PySem.W.Frag} {mg : Str → Option Value} {base : Heap} {t : Tbs} {H H' : Hp}
theorem Due.law {es : List Ent} (d : Due es) : ∀ e ∈ es, LawE e := fun e he =>
  ⟨d.x0.2 _ (List.mem_map.mpr ⟨e, he, rfl⟩), (d.le e he).1, d.y0.2 _ (List.mem_map.mpr ⟨e, he, rfl⟩), (d.le e he).2, d.wd e he⟩
theorem rep_ent {x : V} {e : Ent} (h : EntT H x e) (ok : EOk e) : RepOk K H x := by
  obtain ⟨u, rfl, hu, sw⟩ := EntT.sw (K := K) h ok
  exact ⟨[u], _, sw, by simp, Nat.le_trans (entTxt_len ok) (by decide), fun b hb => by obtain rfl := List.mem_singleton.mp hb; rw [hu]; simp⟩
theorem rep_list {xs : List V} (h : ∀ x ∈ xs, RepOk K H x) : ∃ as ts, Rp.SwL K H as xs ts ∧ as.length ≤ 4 * xs.length ∧ (listText ts).length ≤ 30010 * xs.length + 10 ∧ ∀ a ∈ as, H a ≠ none := by
  have key : ∃ as ts, Rp.SwL K H as xs ts ∧ as.length ≤ 4 * xs.length ∧ (∀ t ∈ ts, t.length ≤ 30000) ∧ ts.length = xs.length ∧ ∀ a ∈ as, H a ≠ none := by
    induction xs with
    | nil => exact ⟨[], [], .nil, by simp, by simp, rfl, by simp⟩
    | cons x xs ih =>
      obtain ⟨as, ts, s1, l1, t1, e1, n1⟩ := ih fun y hy => h y (List.mem_cons_of_mem _ hy)
      obtain ⟨bs, tx, s2, l2, t2, n2⟩ := h x (List.mem_cons_self ..)
      refine ⟨bs ++ as, tx :: ts, .cons s2 s1, by simp; omega, fun u hu => ?_, by simp [e1], fun a ha => ?_⟩
      · rcases List.mem_cons.mp hu with rfl | hu
        · exact t2
        · exact t1 u hu
      · rcases List.mem_append.mp ha with ha | ha
        · exact n2 a ha
        · exact n1 a ha
  obtain ⟨as, ts, s1, l1, t1, e1, n1⟩ := key
  refine ⟨as, ts, s1, l1, ?_, n1⟩
  have z := listText_len_le ts
  have s : (ts.map (·.length)).sum ≤ 30000 * ts.length := by
    clear z s1 l1 e1 n1 h
    induction ts with
    | nil => simp
    | cons t ts ih =>
      have h1 := t1 t (List.mem_cons_self ..)
      have h2 := ih fun u hu => t1 u (List.mem_cons_of_mem _ hu)
      simp only [List.map_cons, List.sum_cons, List.length_cons]
      omega
  rw [← e1]
  omega
def spSpo (K : PySem.W.Frag) (t : Tbs) : Sp := fun vs H Q _ => ∃ p a zs es, vs = [.ref p, .ref a] ∧ H p = some (PotO p) ∧ H a = some (.lst zs) ∧ EL H zs es ∧ Due es ∧ Tabs t.l H ∧ ∀ H', ExtN H H' → Tabs t.l H' → Q (.bl true) H'
theorem d_spoilt (TT : TxT K mg base t) : Df P w K mg base 13 "_law_spoilt_right" ["_law_pot_here", "_law_some"] (spSpo K t) := by
  have T := TT.T
  have D_l_draw := d_draw (P := P) (w := w) (base := base) T
  have D_l_odd := d_odd (P := P) (w := w) (base := base) T
  have D_l_both_right := d_both (P := P) (w := w) (base := base) TT
  refine T.S_l_spoilt_right.by sc_l_spoilt_right (fun vs H Q E h => ?_) (fun f cdv A outer s H vs Q E hr hgd h => ?_)
  · obtain ⟨p, a, zs, es, rfl, _⟩ := h; rfl
  · obtain ⟨p, a, zs, es, rfl, hp, ha, el, due, tb, k⟩ := h
    refine ⟨_, (pss_cons (ps_par (i := 2) (j := 3) rfl sc_l_spoilt_right.nd rfl rfl (by decide) rfl rfl (pa_cons (pe_own D_l_draw (hr.mono (by first | decide | omega)) hgd (pa_cons (pv 0) (pa_cons (pe_callB call_len_seq (by rfl) T.n_len PySem.boot_len (pa_cons (pv 1) pa_nil)) pa_nil))) (pa_cons (pe_own D_l_draw (hr.mono (by first | decide | omega)) hgd (pa_cons (pv 0) (pa_cons pe_int pa_nil))) pa_nil)) (by first | rfl | with_unfolding_all rfl))
      (pss_cons (ps_set (i := 4) sc_l_spoilt_right.nd rfl (by first | exact Or.inl rfl | exact Or.inr rfl) (pe_own D_l_odd (hr.mono (by first | decide | omega)) hgd (pa_cons (pv 0) (pa_cons (pe_ix ix_list (pv 1) (pv 2) (fun _ _ => rfl)) pa_nil))))
      (pss_cons (ps_if (PW.pt (pw_and (pt_cmpR op_eq (pv 3) pe_int (nomark _)) (pw_and1 (pt_cmpR op_gt (pv 2) pe_int (nomark _))))) (pss_one (ps_set (i := 4) sc_l_spoilt_right.nd rfl (by first | exact Or.inl rfl | exact Or.inr rfl) (pe_ix ix_list (pv 1) (pe_own D_l_draw (hr.mono (by first | decide | omega)) hgd (pa_cons (pv 0) (pa_cons (pv 2) pa_nil))) (fun _ _ => rfl)))) pss_nil)
      (pss_cons (ps_set (i := 5) sc_l_spoilt_right.nd rfl (by first | exact Or.inl rfl | exact Or.inr rfl) (pe_op op_cat (pe_op op_cat (pe_slice sl_list (pv 1) po_none (po_some (pv 2))) (pe_lst (pa_cons (pv 4) pa_nil))) (pe_slice sl_list (pv 1) (po_some (pe_op op_add (pv 2) pe_int)) po_none)))
      (pss_cons (ps_if (pt_cmpR op_eq (pv 3) pe_int (nomark _)) (pss_one (ps_set (i := 5) sc_l_spoilt_right.nd rfl (by first | exact Or.inl rfl | exact Or.inr rfl) (pe_op op_cat (pe_slice sl_list (pv 5) po_none (po_some (pe_op op_add (pv 2) pe_int))) (pe_lc (own := [("_law_part", 6)]) rfl sc_l_spoilt_right.nd (pi_list (pe_slice sl_list (pv 5) (po_some (pe_op op_add (pv 2) pe_int)) po_none)) (blkOk_by (own := [("_law_part", 6)]) (N := ["_law_pot_here", "_law_some", "_law_at", "_law_way", "_law_bad", "_law_spoilt", "_law_part"]) (sc := defScope s_l_spoilt_right) (by decide +kernel)) (fun _ _ _ _ _ => (pg_name (i := 6) sc_l_spoilt_right.nd rfl (by first | exact Or.inl rfl | exact Or.inr rfl))) (fun _ _ _ _ _ => pts_nil) (fun _ _ _ _ _ => (pe_own D_l_odd (hr.mono (by first | decide | omega)) hgd (pa_cons (pv 0) (pa_cons (pv 6) pa_nil)))))))) pss_nil)
      (pss_one (ps_ret (pe_own D_l_both_right (hr.mono (by first | decide | omega)) hgd (pa_cons (pv 5) (pa_cons (pe_lst (pa_cons pe_str (pa_cons (pv 2) (pa_cons pe_bl pa_nil)))) pa_nil)))))))))), ?_⟩
    have ln := el.len
    have l0 := due.ok.l0
    have l1 := due.ok.l1
    walk_at "rd"
    intro d H1 d0 d1 s1
    have hp1 := s1 _ _ hp
    walk_at "rd"
    intro wy H2 w0 w1 s2
    have s12 := s1.trans s2
    have hp2 := s12 _ _ hp
    have ha2 := s12 _ _ ha
    obtain ⟨n, rfl⟩ : ∃ n : Nat, d = n := ⟨d.toNat, by omega⟩
    have hn : n < zs.length := by omega
    have hz := List.getElem?_eq_getElem hn
    obtain ⟨e, he, hx⟩ := el.at hz
    refine ⟨_, _, rfl, ?_⟩
    refine ⟨_, rfl, _, rfl, _, rfl, a, zs, (n : Int), zs[n], rfl, rfl, SqL.of ha2, atI_nat hz, ?_⟩
    refine ⟨p, zs[n], e, rfl, hp2, hx.same s12, due.law e (List.mem_of_getElem? he), fun bad H3 N s3 sN nN od => ?_⟩
    have od3 := od.same sN
    have s13 := s12.trans s3
    dsimp only [gName]
    refine seq_cut (fun σ' H' => ∃ bd, σ' = [some (.ref p), some (.ref a), some (.int n), some (.int wy), some bd, none, none] ∧ L2.Same H H' ∧ BadAt K H' bd (es.take n) ∧ RepOk K H' bd) (fun σ' H' q => ?_) (fun main => ?_)
    rotate_left
    · have plain : BadAt K H3 bad (es.take n) ∧ RepOk K H3 bad := ⟨.inl od3.1, od3.2⟩
      walk_at "rd"
      refine ite2 (fun c => ?_) (fun c => ?_)
      · have cw := of_decide_eq_true c
        walk_at "rd"
        refine ite2 (fun c2 => ?_) (fun c2 => ?_)
        · have cn := of_decide_eq_true c2
          have hp3 := s13 _ _ hp
          have ha3 := s13 _ _ ha
          refine ⟨_, rfl, _, rfl, _, rfl, p, (n : Int), rfl, hp3, cn, Int.lt_trans (b := 100) (by omega) (by decide), fun m H4 m0 m1 s4 => ?_⟩
          obtain ⟨m, rfl⟩ : ∃ q : Nat, m = q := ⟨m.toNat, by omega⟩
          have hm : m < zs.length := by omega
          have hzm := List.getElem?_eq_getElem hm
          obtain ⟨g, hg2, hxm⟩ := el.at hzm
          have s14 := s13.trans s4
          have mem : g ∈ es.take n := by
            have : (es.take n)[m]? = some g := by rw [List.getElem?_take_of_lt (by omega)]; exact hg2
            exact List.mem_of_getElem? this
          have gok := due.ok.ok g (List.mem_of_getElem? hg2)
          refine ⟨a, zs, (m : Int), zs[m], rfl, rfl, SqL.of (s4 _ _ ha3), atI_nat hzm, ?_⟩
          exact main _ _ ⟨zs[m], rfl, s14, .inr ⟨g, hxm.same s14, gok, mem⟩, rep_ent (hxm.same s14) gok⟩
        · exact main _ _ ⟨bad, rfl, s13, plain.1, plain.2⟩
      · exact main _ _ ⟨bad, rfl, s13, plain.1, plain.2⟩
    obtain ⟨bd, rfl, sH, hbd, rbd⟩ := q
    have hp5 := sH _ _ hp
    have ha5 := sH _ _ ha
    have sq5 : SqL K H' a zs := SqL.of ha5
    have el5 := el.same sH
    have reps : ∀ x ∈ zs, RepOk K H' x := fun x hx => by
      obtain ⟨j, hj⟩ := List.mem_iff_getElem?.mp hx
      obtain ⟨g, hg, q⟩ := el5.at hj
      exact rep_ent q (due.ok.ok g (List.mem_of_getElem? hg))
    have e1 : ((n : Int) + 1) = ((n + 1 : Nat) : Int) := by omega
    walk_at "rd"
    intro q1 n1
    rw [cut_to (by omega)]
    obtain ⟨G1, z1, s1', h1⟩ := laid (o := .lst (zs.take n)) n1
    rw [z1]
    walk_at "rd"
    intro q2 n2
    obtain ⟨G2, z2, s2', h2⟩ := laid (o := .lst [bd]) n2
    rw [z2]
    refine ⟨q1, q2, zs.take n, [bd], rfl, rfl, s2' _ _ h1, h2, Nat.le_trans (m := 100) (by simp; omega) (by decide), fun q3 n3 => ?_⟩
    obtain ⟨G3, z3, s3', h3⟩ := laid (o := .lst (zs.take n ++ [bd])) n3
    rw [z3]
    have a3 := s3' _ _ (s2' _ _ (s1' _ _ ha5))
    have sq6 : SqL K G3 a zs := SqL.of a3
    walk_at "rd"
    intro q4 n4
    rw [e1, cut_from (by omega)]
    obtain ⟨G4, z4, s4', h4⟩ := laid (o := .lst (zs.drop (n + 1))) n4
    rw [z4]
    refine ⟨q3, q4, zs.take n ++ [bd], zs.drop (n + 1), rfl, rfl, s4' _ _ h3, h4, Nat.le_trans (m := 100) (by simp; omega) (by decide), fun sl nsl => ?_⟩
    obtain ⟨G5, z5, s5', h5⟩ := laid (o := .lst (zs.take n ++ [bd] ++ zs.drop (n + 1))) nsl
    rw [z5]
    have s04 : L2.Same H' G4 := s1'.trans (s2'.trans (s3'.trans s4'))
    have rep4 : ∀ x ∈ zs.take n ++ [bd] ++ zs.drop (n + 1), RepOk K G4 x := fun x hx => by
      rcases List.mem_append.mp hx with hx | hx
      · rcases List.mem_append.mp hx with hx | hx
        · exact (reps x (List.mem_of_mem_take hx)).same s04
        · obtain rfl := List.mem_singleton.mp hx; exact rbd.same s04
      · exact (reps x (List.mem_of_mem_drop hx)).same s04
    dsimp only [gName]
    refine seq_cut (fun σ2 H2 => ∃ sl rest x6 H0, σ2 = [some (.ref p), some (.ref a), some (.int n), some (.int wy), some bd, some (.ref sl), x6] ∧ L2.Same H' H2 ∧ H2 sl = some (.lst (zs.take n ++ [bd] ++ rest)) ∧ rest.length = zs.length - (n + 1) ∧ L2.Same H0 H2 ∧ H0 sl = none ∧
      ∀ x ∈ zs.take n ++ [bd] ++ rest, RepOk K H0 x) (fun σ2 H2 q => ?_) (fun main => ?_)
    rotate_left
    · walk_at "rd"
      refine ite2 (fun c => ?_) (fun c => ?_)
      · have tk : (zs.take n ++ [bd] ++ zs.drop (n + 1)).take (n + 1) = zs.take n ++ [bd] := List.take_left' (by simp; omega)
        have dr : (zs.take n ++ [bd] ++ zs.drop (n + 1)).drop (n + 1) = zs.drop (n + 1) := List.drop_left' (by simp; omega)
        have lw : n + 1 ≤ (zs.take n ++ [bd] ++ zs.drop (n + 1)).length := by simp; omega
        have sq7 : SqL K G5 sl (zs.take n ++ [bd] ++ zs.drop (n + 1)) := SqL.of h5
        walk_at "rd"
        intro q6 n6
        rw [e1, cut_to lw, tk]
        obtain ⟨G6, z6, s6', h6⟩ := laid (o := .lst (zs.take n ++ [bd])) n6
        rw [z6]
        have sq8 : SqL K G6 sl (zs.take n ++ [bd] ++ zs.drop (n + 1)) := SqL.of (s6' _ _ h5)
        walk_at "rd"
        intro q7 n7
        have cf : cutV (zs.take n ++ [bd] ++ zs.drop (n + 1)) (some ((n : Int) + 1)) none = zs.drop (n + 1) := by rw [e1, cut_from lw, dr]
        obtain ⟨G7, z7, s7', h7⟩ := laid (o := .lst (cutV (zs.take n ++ [bd] ++ zs.drop (n + 1)) (some ((n : Int) + 1)) none)) n7
        rw [z7]
        rw [cf] at h7
        have s07 : L2.Same H' G7 := s04.trans (s5'.trans (s6'.trans s7'))
        have p7 := s07 _ _ hp5
        refine ⟨q7, rfl, ⟨_, SqL.of h7⟩, fun D nD => ?_⟩
        refine lc_depI (walk_list (xs := zs.drop (n + 1))) nD (by simp; omega) (fun _ sm => SqL.of (sm _ _ h7)) (fun _ H4 v => ∃ N, N D = none ∧ L2.Same N H4 ∧ RepOk K N v) (fun _ H4 H5 v sm h => by obtain ⟨N, nn, sn, r⟩ := h; exact ⟨N, nn, sn.trans sm, r⟩)
          (fun _ H4 xs ys v hD h => by obtain ⟨N, nn, sn, r⟩ := h; exact ⟨N, nn, Same.mut sn nn, r⟩) (fun i x H4 H5 Kn Z hi sm hD y q => ?_) (fun H4 ys sm hD ll hr => ?_)
        · obtain ⟨rfl, hx⟩ := y
          rw [List.getElem?_drop] at hx
          obtain ⟨g, hg, en⟩ := el5.at hx
          obtain ⟨acc, hD⟩ := hD
          exact ⟨rfl, _, rfl, _, rfl, p, x, g, rfl, sm _ _ p7, en.same (s07.trans sm), due.law g (List.mem_of_getElem? hg), fun y H6 N s6 sN nN od => q _ _ s6 ⟨N, nN D (by rw [hD]; simp), sN, od.2⟩⟩
        · have s67 := s7'.trans sm
          refine ⟨q6, D, zs.take n ++ [bd], ys, rfl, rfl, s67 _ _ h6, hD, Nat.le_trans (m := 100) (by simp [ll]; omega) (by decide), fun s2 ns2 => ?_⟩
          have s8' := Same.new (o := .lst (zs.take n ++ [bd] ++ ys)) ns2
          have s48 := s5'.trans (s6'.trans s67)
          refine main _ _ ⟨s2, ys, none, H4, rfl, (s04.trans s48).trans s8', upd_same, by rw [ll, List.length_drop], s8', ns2, fun x hx => ?_⟩
          rcases List.mem_append.mp hx with hx | hx
          · exact (rep4 x (List.mem_append_left _ hx)).same s48
          · obtain ⟨j, hj⟩ := List.mem_iff_getElem?.mp hx
            obtain ⟨N, _, sn, r⟩ := hr j x hj
            exact r.same sn
      · exact main _ _ ⟨sl, _, none, G4, rfl, s04.trans s5', h5, by simp, s5', nsl, rep4⟩
    obtain ⟨sl, rest, x6, H0, rfl, sH2, hsl, lr, s02, n0, rp⟩ := q
    have lsl : (zs.take n ++ [bd] ++ rest).length = zs.length := by rw [List.length_append, List.length_append, List.length_take, lr]; show min n zs.length + 1 + _ = _; omega
    obtain ⟨as, ts, sw, la, lt, nn⟩ := rep_list rp
    refine ⟨_, rfl, _, rfl, (by show (3 : Nat) ≤ sizeLine; decide +kernel), fun b nb => ?_⟩
    have sb := Same.new (o := .lst [V.str "entries", V.int (n : Int), V.bl true]) nb
    have sAll := sH.trans (sH2.trans sb)
    have s25 := sH2.trans sb
    have hsl' := sb _ _ hsl
    have tk2 : (zs.take n ++ [bd] ++ rest).take n = zs.take n := by rw [List.append_assoc]; exact List.take_left' (by simp; omega)
    have hx2 : (zs.take n ++ [bd] ++ rest)[n]? = some bd := by
      rw [List.append_assoc, List.getElem?_append_right (by rw [List.length_take]; exact Nat.min_le_left _ _)]
      have z0 : n - (zs.take n).length = 0 := by rw [List.length_take]; omega
      rw [z0]; rfl
    refine ⟨sl, b, _, .pos (.int n), rfl, hsl', by omega, by omega, .bad (es := es.take n) (by omega) (by omega) ?_ (fun g hg => due.ok.ok g (List.mem_of_mem_take hg)) (due.ok.nd.sublist (List.take_sublist _ _)) hx2 (hbd.same s25), trivial, upd_same, ?_, tb.ext sAll, ⟨as, ts, SwL_same (s02.trans sb) sw, fun m => nn _ m n0, by omega, Nat.le_trans (m := 200000) (by omega) (by decide)⟩, fun H9 e9 T9 => k H9 ((ExtN.of sAll).trans e9) T9⟩
    · rw [tk2]
      exact (el5.same s25).take n
    · exact ne_of_none hsl nb
end
end K13

set_option Elab.async false
set_option linter.all false
set_option maxRecDepth 100000
set_option maxHeartbeats 4000000
namespace K13
open PySem L2 Lay Own SrtO LamX
local macro_rules | `(tactic| walk_at "ne") => `(tactic| first | assumption | (apply Ne.symm; assumption) | exact ne_of_none (by walk_at "look") (by assumption) | exact (ne_of_none (by walk_at "look") (by assumption)).symm)
local macro_rules | `(tactic| walk_at "look") => `(tactic| first | assumption | exact upd_same | (refine Eq.trans (upd_ne ?_) ?_; walk_at "ne"; walk_at "look"))
local macro_rules | `(tactic| walk_at "rds") => `(tactic| first | rfl | assumption | walk_at "look" | exact SqL.of (by walk_at "look") | exact SqT.of (by walk_at "look") | exact Or.inl (SqL.of (by walk_at "look")) | exact Or.inl (by assumption) | decide | omega | exact Nat.le_of_ble_eq_true rfl | exact Or.inr ⟨by decide, by decide⟩ | exact Or.inl ⟨by omega, by omega⟩ | exact ⟨by decide, by decide⟩)
local macro_rules | `(tactic| walk_at "rd1") => `(tactic| first | (apply Exists.intro) | (refine And.intro ?_ ?_; walk_at "rds") | (refine Or.inl ?_; apply Exists.intro; refine And.intro ?_ ?_; rfl))
local macro_rules | `(tactic| walk_at "rd") => `(tactic| repeat walk_at "rd1")
section
variable {P : Program} {w : World} {K : PySem.W.Frag} {mg : Str → Option Value} {base : Heap} {t : Tbs} {H H' : Hp}
/-- far apart, on one side at least -/
def Far (u v : Int) : Prop := (4 ≤ u ∧ u ≤ 23 ∧ 0 ≤ v ∧ v ≤ 23) ∨ (0 ≤ u ∧ u ≤ 1 ∧ 4 ≤ v ∧ v ≤ 23)
def AllP (H : Hp) (ys : List V) : Prop := ∀ y ∈ ys, ∃ t u v, y = .ref t ∧ H t = some (.tup [.int u, .int v]) ∧ Far u v
theorem AllP.same {ys : List V} (h : AllP H ys) (s : L2.Same H H') : AllP H' ys := fun y hy => by
  obtain ⟨t, u, v, e, ht, f⟩ := h y hy
  exact ⟨t, u, v, e, s _ _ ht, f⟩
theorem AllP.more {ys : List V} {a : Addr} {u v : Int} (h : AllP H ys) (ha : H a = some (.tup [.int u, .int v])) (f : Far u v) : AllP H (ys ++ [.ref a]) := fun y hy => by
  rcases List.mem_append.mp hy with hy | hy
  · exact h y hy
  · obtain rfl := List.mem_singleton.mp hy
    exact ⟨a, u, v, rfl, ha, f⟩
theorem cut_any {xs : List V} {i : Nat} : cutV xs none (some (i : Int)) = xs.take i := by
  by_cases h : i ≤ xs.length
  · exact cut_to h
  · unfold cutV
    rw [HT.sIx_nat, HT.sIx_none, Nat.min_eq_right (by omega), List.take_of_length_le (show xs.length ≤ i by omega)]
    simp
def mvd (lo bo : Int) (e : Ent) : Ent := (e.1 - lo - 20, e.2.1 - bo - 20, e.2.2)
theorem mvd_inj {lo bo : Int} {e f : Ent} (h : mvd lo bo e = mvd lo bo f) : e = f := by
  obtain ⟨a, b, c⟩ := e
  obtain ⟨a', b', c'⟩ := f
  simp only [mvd, Prod.mk.injEq] at h
  obtain ⟨h1, h2, h3⟩ := h
  have e1 : a = a' := by omega
  have e2 : b = b' := by omega
  rw [e1, e2, h3]
theorem far_reach {ES fs : List Ent} {m1 m2 M m : Int} (kn : Kn ES fs m1 m2) (hM : IsMax M (ES.map (·.1))) (hm : IsMin m (ES.map (·.1))) : m1 = M - m := by
  obtain ⟨⟨lo, bo, hlo, hbo, pm, _⟩, ⟨x1, x2⟩, _⟩ := kn
  have e1 : lo = m := Int.le_antisymm (hlo.2 _ hm.1) (hm.2 _ hlo.1)
  subst e1
  have up : ∀ e ∈ ES, e.1 - lo ∈ fs.map (·.1) := fun e he => by
    have : mv lo bo e ∈ fs := pm.mem_iff.mpr (List.mem_map.mpr ⟨e, he, rfl⟩)
    exact List.mem_map.mpr ⟨_, this, rfl⟩
  obtain ⟨g, hg, eg⟩ := List.mem_map.mp hM.1
  have k1 := x2 _ (up g hg)
  obtain ⟨q, hq, eq⟩ := List.mem_map.mp x1
  obtain ⟨r, hr, er⟩ := List.mem_map.mp (pm.mem_iff.mp hq)
  have k2 := hM.2 _ (List.mem_map.mpr ⟨r, hr, rfl⟩)
  subst er
  have e3 : r.1 - lo = m1 := eq
  have e4 : g.1 = M := eg
  have k3 : r.1 ≤ M := k2
  have k4 : g.1 - lo ≤ m1 := k1
  omega
/-- so far up: the greatest less any -/
theorem far_up {ES fs : List Ent} {m1 m2 : Int} (kn : Kn ES fs m1 m2) {c g : Ent} (hc : c ∈ ES) (hg : g ∈ ES) : c.2.1 - g.2.1 ≤ m2 := by
  obtain ⟨⟨lo, bo, hlo, hbo, pm, _⟩, _, ⟨y1, y2⟩⟩ := kn
  have h1 : c.2.1 - bo ≤ m2 := y2 _ (List.mem_map.mpr ⟨mv lo bo c, pm.mem_iff.mpr (List.mem_map.mpr ⟨c, hc, rfl⟩), rfl⟩)
  have h2 : bo ≤ g.2.1 := hbo.2 _ (List.mem_map.mpr ⟨g, hg, rfl⟩)
  omega
/-- the entries that lie too far apart -/
structure Spread (ES : List Ent) (u v : Int) : Prop where
  ok : EsOk ES
  g1 : ∃ c ∈ ES, ∃ g ∈ ES, c.1 = u - 20 ∧ g.1 = -20
  g2 : ∃ c ∈ ES, ∃ g ∈ ES, c.2.1 = v - 20 ∧ g.2.1 = -20
theorem spread_of {es : List Ent} {lo bo u v : Int} {nm : Str} (due : Due es) (f : Far u v) (hlo : IsMin lo ((es.take 5).map (·.1))) (hbo : IsMin bo ((es.take 5).map (·.2.1))) (hn : Wd nm) {ES : List Ent}
    (hE : ES = (es.take 5).map (mvd lo bo) ++ [(u - 20, v - 20, nm)] ∨ ES = [(u - 20, v - 20, nm)] ++ (es.take 5).map (mvd lo bo)) : Spread ES u v := by
  have mem : ∀ e, e ∈ ES ↔ e ∈ (es.take 5).map (mvd lo bo) ∨ e = (u - 20, v - 20, nm) := fun e => by
    rcases hE with rfl | rfl
    · rw [List.mem_append, List.mem_singleton]
    · rw [List.mem_append, List.mem_singleton]; exact Or.comm
  have lw := due.law
  have bnd : ∀ e ∈ es.take 5, 0 ≤ e.1 - lo ∧ e.1 - lo ≤ 3 ∧ 0 ≤ e.2.1 - bo ∧ e.2.1 - bo ≤ 3 ∧ Wd e.2.2 := fun e he => by
    have q := lw e (List.mem_of_mem_take he)
    obtain ⟨a, ha, ea⟩ := List.mem_map.mp hlo.1
    obtain ⟨b, hb, eb⟩ := List.mem_map.mp hbo.1
    have qa := (lw a (List.mem_of_mem_take ha)).a0
    have qb := (lw b (List.mem_of_mem_take hb)).u0
    have k1 := hlo.2 _ (List.mem_map.mpr ⟨e, he, rfl⟩)
    have k2 := hbo.2 _ (List.mem_map.mpr ⟨e, he, rfl⟩)
    have ea' : a.1 = lo := ea
    have eb' : b.2.1 = bo := eb
    have k1' : lo ≤ e.1 := k1
    have k2' : bo ≤ e.2.1 := k2
    exact ⟨by omega, by have := q.a3; omega, by omega, by have := q.u3; omega, q.n⟩
  have lt : (es.take 5).length = min 5 es.length := List.length_take
  have l0 := due.ok.l0
  have l1 := due.ok.l1
  have nd : ((es.take 5).map (mvd lo bo)).Nodup := nodup_map (fun a b h => mvd_inj h) (due.ok.nd.sublist (List.take_sublist _ _))
  have nin : ¬ ((u - 20, v - 20, nm) : Ent) ∈ (es.take 5).map (mvd lo bo) := fun h => by
    obtain ⟨e, he, q⟩ := List.mem_map.mp h
    obtain ⟨b1, b2, b3, b4, _⟩ := bnd e he
    simp only [mvd, Prod.mk.injEq] at q
    unfold Far at f
    omega
  have fb : 0 ≤ u ∧ u ≤ 23 ∧ 0 ≤ v ∧ v ≤ 23 := by unfold Far at f; omega
  have len : ES.length = min 5 es.length + 1 := by
    rcases hE with rfl | rfl <;> simp <;> omega
  refine ⟨⟨by omega, by omega, ?_, fun e he => ?_⟩, ?_, ?_⟩
  · rcases hE with rfl | rfl
    · exact List.nodup_append.mpr ⟨nd, by simp, fun a ha b hb => by obtain rfl := List.mem_singleton.mp hb; exact fun z => nin (z ▸ ha)⟩
    · exact List.nodup_append.mpr ⟨by simp, nd, fun a ha b hb => by obtain rfl := List.mem_singleton.mp ha; exact fun z => nin (z ▸ hb)⟩
  · rcases (mem e).mp he with h | rfl
    · obtain ⟨g, hg, rfl⟩ := List.mem_map.mp h
      obtain ⟨b1, b2, b3, b4, wd⟩ := bnd g hg
      exact Wd.eok (e := mvd lo bo g) wd (by show -20 ≤ g.1 - lo - 20; omega) (by show g.1 - lo - 20 ≤ 20; omega) (by show -20 ≤ g.2.1 - bo - 20; omega) (by show g.2.1 - bo - 20 ≤ 20; omega)
    · exact Wd.eok (e := (u - 20, v - 20, nm)) hn (by show -20 ≤ u - 20; omega) (by show u - 20 ≤ 20; omega) (by show -20 ≤ v - 20; omega) (by show v - 20 ≤ 20; omega)
  · obtain ⟨a, ha, ea⟩ := List.mem_map.mp hlo.1
    exact ⟨_, (mem _).mpr (.inr rfl), mvd lo bo a, (mem _).mpr (.inl (List.mem_map.mpr ⟨a, ha, rfl⟩)), rfl, by show a.1 - lo - 20 = -20; have : a.1 = lo := ea; omega⟩
  · obtain ⟨b, hb, eb⟩ := List.mem_map.mp hbo.1
    exact ⟨_, (mem _).mpr (.inr rfl), mvd lo bo b, (mem _).mpr (.inl (List.mem_map.mpr ⟨b, hb, rfl⟩)), rfl, by show b.2.1 - bo - 20 = -20; have : b.2.1 = bo := eb; omega⟩
/-- what becomes of them -/
theorem spread_ls {ES : List Ent} {u v M m : Int} {xs : List V} (s : Spread ES u v) (f : Far u v) (el : EL H xs ES) (hM : IsMax M (ES.map (·.1))) (hm : IsMin m (ES.map (·.1))) : Ls K H xs (.many (if 3 < M - m then "across" else "up")) := by
  by_cases c : 3 < M - m
  · rw [if_pos c]
    exact .across el s.ok fun fs m1 m2 kn => by rw [far_reach kn hM hm]; exact c
  · rw [if_neg c]
    obtain ⟨a, ha, b, hb, e1, e2⟩ := s.g1
    obtain ⟨a', ha', b', hb', e3, e4⟩ := s.g2
    have k1 : a.1 ≤ M := hM.2 _ (List.mem_map.mpr ⟨a, ha, rfl⟩)
    have k2 : m ≤ b.1 := hm.2 _ (List.mem_map.mpr ⟨b, hb, rfl⟩)
    refine .up el s.ok fun fs m1 m2 kn => ⟨by rw [far_reach kn hM hm]; omega, ?_⟩
    have k3 := far_up kn ha' hb'
    unfold Far at f
    omega
theorem d_far13 (TT : TxT K mg base t) : Df P w K mg base 13 "_law_far_right" ["_law_pot_here", "_law_some"] (spSpo K t) := by
  have T := TT.T
  have D_l_among := d_among (P := P) (w := w) (base := base) T
  have D_l_both_right := d_both (P := P) (w := w) (base := base) TT
  refine T.S_l_far_right.by sc_l_far_right (fun vs H Q E h => ?_) (fun f cdv A outer s H vs Q E hr hgd h => ?_)
  · obtain ⟨p, a, zs, es, rfl, _⟩ := h; rfl
  · obtain ⟨p, a, zs, es, rfl, hp, ha, el, due, tb, k⟩ := h
    refine ⟨_, (pss_cons (ps_asg (pe_own D_l_among (hr.mono (by first | decide | omega)) hgd (pa_cons (pv 0) (pa_cons (pe_lst (pa_cons (pe_tup (pa_cons pe_int (pa_cons pe_int pa_nil))) (pa_cons (pe_tup (pa_cons pe_int (pa_cons pe_int pa_nil))) (pa_cons (pe_tup (pa_cons pe_int (pa_cons pe_int pa_nil))) (pa_cons (pe_tup (pa_cons pe_int (pa_cons pe_int pa_nil))) (pa_cons (pe_tup (pa_cons pe_int (pa_cons pe_int pa_nil))) (pa_cons (pe_tup (pa_cons pe_int (pa_cons pe_int pa_nil))) (pa_cons (pe_tup (pa_cons pe_int (pa_cons pe_int pa_nil))) (pa_cons (pe_tup (pa_cons pe_int (pa_cons pe_int pa_nil))) pa_nil))))))))) pa_nil))) (pg_tup rfl (pgs_cons (pg_name (i := 2) sc_l_far_right.nd rfl (by first | exact Or.inl rfl | exact Or.inr rfl)) (pgs_cons (pg_name (i := 3) sc_l_far_right.nd rfl (by first | exact Or.inl rfl | exact Or.inr rfl)) pgs_nil))))
      (pss_cons (ps_set (i := 4) sc_l_far_right.nd rfl (by first | exact Or.inl rfl | exact Or.inr rfl) (pe_slice sl_list (pv 1) po_none (po_some pe_int)))
      (pss_cons (ps_asg (pe_tup (pa_cons (pe_callB  (cr_min rfl) (by rfl) T.n_min (by decide +kernel) (pa_cons (pe_lc (own := [("_law_part", 11)]) rfl sc_l_far_right.nd (pi_list (pv 4)) (blkOk_by (own := [("_law_part", 11)]) (N := ["_law_pot_here", "_law_some", "_law_across", "_law_up", "_law_few", "_law_left", "_law_low", "_law_moved", "_law_corner", "_law_spread", "_law_broad", "_law_part"]) (sc := defScope s_l_far_right) (by decide +kernel)) (fun _ _ _ _ _ => (pg_name (i := 11) sc_l_far_right.nd rfl (by first | exact Or.inl rfl | exact Or.inr rfl))) (fun _ _ _ _ _ => pts_nil) (fun _ _ _ _ _ => (pe_ix  (ix_tupK (C := K) rfl) (pv 11) pe_int (fun _ _ => rfl)))) pa_nil)) (pa_cons (pe_callB  (cr_min rfl) (by rfl) T.n_min (by decide +kernel) (pa_cons (pe_lc (own := [("_law_part", 11)]) rfl sc_l_far_right.nd (pi_list (pv 4)) (blkOk_by (own := [("_law_part", 11)]) (N := ["_law_pot_here", "_law_some", "_law_across", "_law_up", "_law_few", "_law_left", "_law_low", "_law_moved", "_law_corner", "_law_spread", "_law_broad", "_law_part"]) (sc := defScope s_l_far_right) (by decide +kernel)) (fun _ _ _ _ _ => (pg_name (i := 11) sc_l_far_right.nd rfl (by first | exact Or.inl rfl | exact Or.inr rfl))) (fun _ _ _ _ _ => pts_nil) (fun _ _ _ _ _ => (pe_ix  (ix_tupK (C := K) rfl) (pv 11) pe_int (fun _ _ => rfl)))) pa_nil)) pa_nil))) (pg_tup rfl (pgs_cons (pg_name (i := 5) sc_l_far_right.nd rfl (by first | exact Or.inl rfl | exact Or.inr rfl)) (pgs_cons (pg_name (i := 6) sc_l_far_right.nd rfl (by first | exact Or.inl rfl | exact Or.inr rfl)) pgs_nil))))
      (pss_cons (ps_setLc (i := 7) (own := [("_law_part", 11)]) rfl sc_l_far_right.nd rfl rfl (sw_true rfl rfl rfl (by decide +kernel)) (pi_list (pv 4)) (blkOk_by (own := [("_law_part", 11)]) (N := ["_law_pot_here", "_law_some", "_law_across", "_law_up", "_law_few", "_law_left", "_law_low", "_law_moved", "_law_corner", "_law_spread", "_law_broad", "_law_part"]) (sc := defScope s_l_far_right) (by decide +kernel)) (fun _ _ _ _ _ => (pg_name (i := 11) sc_l_far_right.nd rfl (by first | exact Or.inl rfl | exact Or.inr rfl))) (fun _ _ _ _ _ => pts_nil) (fun _ _ _ _ _ => (pe_tup (pa_cons (pe_op op_sub (pe_op op_sub (pe_ix  (ix_tupK (C := K) rfl) (pv 11) pe_int (fun _ _ => rfl)) (pv 5)) pe_int) (pa_cons (pe_op op_sub (pe_op op_sub (pe_ix  (ix_tupK (C := K) rfl) (pv 11) pe_int (fun _ _ => rfl)) (pv 6)) pe_int) (pa_cons (pe_ix  (ix_tupK (C := K) rfl) (pv 11) pe_int (fun _ _ => rfl)) pa_nil))))))
      (pss_cons (ps_set (i := 8) sc_l_far_right.nd rfl (by first | exact Or.inl rfl | exact Or.inr rfl) (pe_tup (pa_cons (pe_op op_sub (pv 2) pe_int) (pa_cons (pe_op op_sub (pv 3) pe_int) (pa_cons (pe_own D_l_among (hr.mono (by first | decide | omega)) hgd (pa_cons (pv 0) (pa_cons (pe_lc (own := [("_law_part", 11)]) rfl sc_l_far_right.nd (pi_list (pv 1)) (blkOk_by (own := [("_law_part", 11)]) (N := ["_law_pot_here", "_law_some", "_law_across", "_law_up", "_law_few", "_law_left", "_law_low", "_law_moved", "_law_corner", "_law_spread", "_law_broad", "_law_part"]) (sc := defScope s_l_far_right) (by decide +kernel)) (fun _ _ _ _ _ => (pg_name (i := 11) sc_l_far_right.nd rfl (by first | exact Or.inl rfl | exact Or.inr rfl))) (fun _ _ _ _ _ => pts_nil) (fun _ _ _ _ _ => (pe_ix  (ix_tupK (C := K) rfl) (pv 11) pe_int (fun _ _ => rfl)))) pa_nil))) pa_nil)))))
      (pss_cons (ps_set (i := 9) sc_l_far_right.nd rfl (by first | exact Or.inl rfl | exact Or.inr rfl) (pe_own D_l_among (hr.mono (by first | decide | omega)) hgd (pa_cons (pv 0) (pa_cons (pe_lst (pa_cons (pe_op op_cat (pv 7) (pe_lst (pa_cons (pv 8) pa_nil))) (pa_cons (pe_op op_cat (pe_lst (pa_cons (pv 8) pa_nil)) (pv 7)) pa_nil))) pa_nil))))
      (pss_cons (ps_set (i := 10) sc_l_far_right.nd rfl (by first | exact Or.inl rfl | exact Or.inr rfl) (pe_op op_sub (pe_callB  (cr_max rfl) (by rfl) T.n_max (by decide +kernel) (pa_cons (pe_lc (own := [("_law_part", 11)]) rfl sc_l_far_right.nd (pi_list (pv 9)) (blkOk_by (own := [("_law_part", 11)]) (N := ["_law_pot_here", "_law_some", "_law_across", "_law_up", "_law_few", "_law_left", "_law_low", "_law_moved", "_law_corner", "_law_spread", "_law_broad", "_law_part"]) (sc := defScope s_l_far_right) (by decide +kernel)) (fun _ _ _ _ _ => (pg_name (i := 11) sc_l_far_right.nd rfl (by first | exact Or.inl rfl | exact Or.inr rfl))) (fun _ _ _ _ _ => pts_nil) (fun _ _ _ _ _ => (pe_ix  (ix_tupK (C := K) rfl) (pv 11) pe_int (fun _ _ => rfl)))) pa_nil)) (pe_callB  (cr_min rfl) (by rfl) T.n_min (by decide +kernel) (pa_cons (pe_lc (own := [("_law_part", 11)]) rfl sc_l_far_right.nd (pi_list (pv 9)) (blkOk_by (own := [("_law_part", 11)]) (N := ["_law_pot_here", "_law_some", "_law_across", "_law_up", "_law_few", "_law_left", "_law_low", "_law_moved", "_law_corner", "_law_spread", "_law_broad", "_law_part"]) (sc := defScope s_l_far_right) (by decide +kernel)) (fun _ _ _ _ _ => (pg_name (i := 11) sc_l_far_right.nd rfl (by first | exact Or.inl rfl | exact Or.inr rfl))) (fun _ _ _ _ _ => pts_nil) (fun _ _ _ _ _ => (pe_ix  (ix_tupK (C := K) rfl) (pv 11) pe_int (fun _ _ => rfl)))) pa_nil))))
      (pss_one (ps_ret (pe_own D_l_both_right (hr.mono (by first | decide | omega)) hgd (pa_cons (pv 9) (pa_cons (pe_lst (pa_cons pe_str (pa_cons (pe_ifExp (pt_cmpR op_gt (pv 10) pe_int (nomark _)) pe_str pe_str) (pa_cons pe_int (pa_cons pe_bl pa_nil))))) pa_nil)))))))))))), ?_⟩
    have ln := el.len
    have l0 := due.ok.l0
    have l1 := due.ok.l1
    walk_at "rd"
    intro a1 n1
    obtain ⟨G1, q1, s1, h1⟩ := laid (o := .tup [.int 4, .int 0]) n1
    rw [q1]
    have A : AllP G1 ([] ++ [.ref a1]) := (show AllP G1 [] from fun v hv => by cases hv).more h1 (by unfold Far; omega)
    walk_at "rd"
    intro a2 n2
    obtain ⟨G2, q2, s2, h2⟩ := laid (o := .tup [.int 0, .int 4]) n2
    rw [q2]
    have A : AllP G2 ([.ref a1] ++ [.ref a2]) := (A.same s2).more h2 (by unfold Far; omega)
    walk_at "rd"
    intro a3 n3
    obtain ⟨G3, q3, s3, h3⟩ := laid (o := .tup [.int 4, .int 4]) n3
    rw [q3]
    have A : AllP G3 ([.ref a1, .ref a2] ++ [.ref a3]) := (A.same s3).more h3 (by unfold Far; omega)
    walk_at "rd"
    intro a4 n4
    obtain ⟨G4, q4, s4, h4⟩ := laid (o := .tup [.int 23, .int 0]) n4
    rw [q4]
    have A : AllP G4 ([.ref a1, .ref a2, .ref a3] ++ [.ref a4]) := (A.same s4).more h4 (by unfold Far; omega)
    walk_at "rd"
    intro a5 n5
    obtain ⟨G5, q5, s5, h5⟩ := laid (o := .tup [.int 0, .int 23]) n5
    rw [q5]
    have A : AllP G5 ([.ref a1, .ref a2, .ref a3, .ref a4] ++ [.ref a5]) := (A.same s5).more h5 (by unfold Far; omega)
    walk_at "rd"
    intro a6 n6
    obtain ⟨G6, q6, s6, h6⟩ := laid (o := .tup [.int 23, .int 23]) n6
    rw [q6]
    have A : AllP G6 ([.ref a1, .ref a2, .ref a3, .ref a4, .ref a5] ++ [.ref a6]) := (A.same s6).more h6 (by unfold Far; omega)
    walk_at "rd"
    intro a7 n7
    obtain ⟨G7, q7, s7, h7⟩ := laid (o := .tup [.int 4, .int 1]) n7
    rw [q7]
    have A : AllP G7 ([.ref a1, .ref a2, .ref a3, .ref a4, .ref a5, .ref a6] ++ [.ref a7]) := (A.same s7).more h7 (by unfold Far; omega)
    walk_at "rd"
    intro a8 n8
    obtain ⟨G8, q8, s8, h8⟩ := laid (o := .tup [.int 1, .int 4]) n8
    rw [q8]
    have A : AllP G8 ([.ref a1, .ref a2, .ref a3, .ref a4, .ref a5, .ref a6, .ref a7] ++ [.ref a8]) := (A.same s8).more h8 (by unfold Far; omega)
    refine ⟨(by show (8 : Nat) ≤ sizeLine; decide +kernel), fun l nl => ?_⟩
    obtain ⟨G9, q9, s9, h9⟩ := laid (o := .lst [.ref a1, .ref a2, .ref a3, .ref a4, .ref a5, .ref a6, .ref a7, .ref a8]) nl
    rw [q9]
    have A := A.same s9
    have s19 := s1.trans (s2.trans (s3.trans (s4.trans (s5.trans (s6.trans (s7.trans (s8.trans s9)))))))
    refine ⟨p, l, _, rfl, s19 _ _ hp, SqL.of h9, by simp, by simp, fun y H1 hy s10 => ?_⟩
    obtain ⟨tt, u, v, rfl, htt, far⟩ := A y (by simpa using hy)
    have htt := s10 _ _ htt
    have sA := s19.trans s10
    have haA := sA _ _ ha
    refine ⟨tt, _, rfl, SqT.of htt, rfl, _, _, rfl, _, _, rfl, rfl, ?_⟩
    have sqA : SqL K H1 a zs := SqL.of haA
    walk_at "rd"
    intro fw nf
    have c5 : cutV zs none (some (5 : Int)) = zs.take 5 := cut_any (i := 5)
    rw [c5]
    obtain ⟨B0, z0, r0, hfw⟩ := laid (o := .lst (zs.take 5)) nf
    rw [z0]
    have elF : EL B0 (zs.take 5) (es.take 5) := (el.take 5).same (sA.trans r0)
    have lf : (es.take 5).length = min 5 es.length := List.length_take
    have lnF := elF.len
    refine ⟨_, rfl, fw, rfl, ⟨_, SqL.of hfw⟩, fun D nD => ?_⟩
    refine lc_pure (walk_list (xs := zs.take 5)) nD (by omega) (fun _ sm => SqL.of (sm _ _ hfw)) (fun i y => ∃ e, (es.take 5)[i]? = some e ∧ y = .int e.1) (fun i x H4 H5 Kn Z hi sm y q => ?_) (fun H4 ys sm hD hl hr => ?_)
    · obtain ⟨rfl, hx⟩ := y
      obtain ⟨e, he, t, rfl, ht⟩ := elF.at hx
      have ht' := sm _ _ ht
      walk_at "rd"
      exact q _ _ (Same.refl _) ⟨e, he, rfl⟩
    obtain rfl := ints_of (hl.trans lnF) hr
    refine ⟨D, (es.take 5).map (·.1), rfl, SqL.of hD, by rw [List.length_map]; omega, fun lo hm hle => ?_⟩
    refine ⟨_, rfl, fw, rfl, ⟨_, SqL.of (sm _ _ hfw)⟩, fun D2 nD2 => ?_⟩
    refine lc_pure (walk_list (xs := zs.take 5)) nD2 (by omega) (fun _ sm2 => SqL.of (sm2 _ _ (sm _ _ hfw))) (fun i y => ∃ e, (es.take 5)[i]? = some e ∧ y = .int e.2.1) (fun i x H5 H6 Kn Z hi sm2 y q => ?_) (fun H5 ys sm2 hD2 hl2 hr2 => ?_)
    · obtain ⟨rfl, hx⟩ := y
      obtain ⟨e, he, t, rfl, ht⟩ := elF.at hx
      have ht' := sm2 _ _ (sm _ _ ht)
      walk_at "rd"
      exact q _ _ (Same.refl _) ⟨e, he, rfl⟩
    obtain rfl := ints_of (hl2.trans lnF) hr2
    refine ⟨D2, (es.take 5).map (·.2.1), rfl, SqL.of hD2, by rw [List.length_map]; omega, fun bo hm2' hle2 => ?_⟩
    have r2 := sm.trans sm2
    refine ⟨by show (2 : Nat) ≤ sizeLine; decide +kernel, fun tp ntp => ?_⟩
    have r3 := r2.trans (Same.new (o := .tup [V.int lo, V.int bo]) ntp)
    refine ⟨tp, _, rfl, SqT.of upd_same, rfl, _, _, rfl, _, _, rfl, rfl, ?_⟩
    refine ⟨_, rfl, fw, rfl, ⟨_, SqL.of (r3 _ _ hfw)⟩, fun D3 nD3 => ?_⟩
    refine lc_depI (walk_list (xs := zs.take 5)) nD3 (by omega) (fun _ sm3 => SqL.of (sm3 _ _ (r3 _ _ hfw))) (fun i H v => ∃ e, (es.take 5)[i]? = some e ∧ EntT H v (mvd lo bo e)) (fun i H H' v s h => by obtain ⟨e, he, h⟩ := h; exact ⟨e, he, h.same s⟩) (fun i H xs ys v hD h => by obtain ⟨e, he, h⟩ := h; exact ⟨e, he, h.mut hD⟩) (fun i x H6 H7 Kn Z hi sm3 _ y q => ?_) (fun H6 ys sm3 hD3 hl3 hr3 => ?_)
    · obtain ⟨rfl, hx⟩ := y
      obtain ⟨e, he, uu, rfl, hu⟩ := elF.at hx
      have hu' := sm3 _ _ (r3 _ _ hu)
      walk_at "rd"
      exact fun p np => q _ _ (Same.new np) ⟨e, he, p, rfl, upd_same⟩
    have r4 := r3.trans sm3
    have elM : EL H6 ys ((es.take 5).map (mvd lo bo)) := el_of (hl3.trans lnF) hr3
    have sB : L2.Same H H6 := sA.trans (r0.trans r4)
    have pB := sB _ _ hp
    have aB := sB _ _ ha
    walk_at "rd"
    refine ⟨⟨_, SqL.of aB⟩, fun D4 nD4 => ?_⟩
    have elB := el.same sB
    refine lc_pure (walk_list (xs := zs)) nD4 (by omega) (fun _ sm4 => SqL.of (sm4 _ _ aB)) (fun i y => ∃ e, es[i]? = some e ∧ y = .str e.2.2) (fun i x H7 H8 Kn Z hi sm4 y q => ?_) (fun H7 ns sm4 hD4 hl4 hr4 => ?_)
    · obtain ⟨rfl, hx⟩ := y
      obtain ⟨e, he, uu, rfl, hu⟩ := elB.at hx
      have hu' := sm4 _ _ hu
      walk_at "rd"
      exact q _ _ (Same.refl _) ⟨e, he, rfl⟩
    refine ⟨p, D4, ns, rfl, sm4 _ _ pB, SqL.of hD4, by omega, by omega, fun y H8 hy s8 => ?_⟩
    obtain ⟨nm, rfl, wn⟩ : ∃ nm, y = .str nm ∧ Wd nm := by
      obtain ⟨j, hj⟩ := List.mem_iff_getElem?.mp hy
      obtain ⟨e, he, rfl⟩ := hr4 j y hj
      exact ⟨_, rfl, due.wd e (List.mem_of_getElem? he)⟩
    refine ⟨by show (3 : Nat) ≤ sizeLine; decide +kernel, fun cr ncr => ?_⟩
    obtain ⟨B1, z1, r5, hcr⟩ := laid (o := .tup [.int (u - 20), .int (v - 20), .str nm]) ncr
    rw [z1]
    have sC : L2.Same H6 B1 := sm4.trans (s8.trans r5)
    have hD3' := sC _ _ hD3
    have cE : EntT B1 (.ref cr) (u - 20, v - 20, nm) := ⟨cr, rfl, hcr⟩
    have elM1 := elM.same sC
    walk_at "rd"
    intro k1 nk1
    obtain ⟨B2, z2, r6, hk1⟩ := laid (o := .lst [.ref cr]) nk1
    rw [z2]
    have lys : ys.length ≤ 5 := by omega
    refine ⟨D3, k1, ys, [.ref cr], rfl, rfl, r6 _ _ hD3', hk1, Nat.le_trans (m := 100) (by simp; omega) (by decide), fun m1 nm1 => ?_⟩
    obtain ⟨B3, z3, r7, hm1⟩ := laid (o := .lst (ys ++ [.ref cr])) nm1
    rw [z3]
    walk_at "rd"
    intro k2 nk2
    obtain ⟨B4, z4, r8, hk2⟩ := laid (o := .lst [.ref cr]) nk2
    rw [z4]
    refine ⟨_, rfl, k2, D3, [.ref cr], ys, rfl, rfl, hk2, r8 _ _ (r7 _ _ (r6 _ _ hD3')), Nat.le_trans (m := 100) (by simp; omega) (by decide), fun m2 nm2 => ?_⟩
    obtain ⟨B5, z5, r9, hm2⟩ := laid (o := .lst ([.ref cr] ++ ys)) nm2
    rw [z5]
    refine ⟨by show (2 : Nat) ≤ sizeLine; decide +kernel, fun l2 nl2 => ?_⟩
    obtain ⟨B6, z6, r10, hl2'⟩ := laid (o := .lst [.ref m1, .ref m2]) nl2
    rw [z6]
    have sD : L2.Same B1 B6 := r6.trans (r7.trans (r8.trans (r9.trans r10)))
    have sE : L2.Same H B6 := sB.trans (sC.trans sD)
    refine ⟨p, l2, _, rfl, sE _ _ hp, SqL.of hl2', by simp, by simp, fun y B7 hy r11 => ?_⟩
    obtain ⟨mm, xs, ES, Bp, rfl, hmm, nmm, sBp, elP, hE⟩ : ∃ mm xs ES Bp, y = .ref mm ∧ B7 mm = some (.lst xs) ∧ Bp mm = none ∧ L2.Same Bp B7 ∧ EL Bp xs ES ∧ (ES = (es.take 5).map (mvd lo bo) ++ [(u - 20, v - 20, nm)] ∨ ES = [(u - 20, v - 20, nm)] ++ (es.take 5).map (mvd lo bo)) := by
      rcases List.mem_cons.mp hy with rfl | hy
      · exact ⟨m1, _, _, B2, rfl, r11 _ _ (r10 _ _ (r9 _ _ (r8 _ _ hm1))), nm1, r7.trans (r8.trans (r9.trans (r10.trans r11))), (elM1.same r6).app (.cons (cE.same r6) .nil), .inl rfl⟩
      · obtain rfl := List.mem_singleton.mp hy
        have s4 := r6.trans (r7.trans r8)
        exact ⟨m2, _, _, B4, rfl, r11 _ _ (r10 _ _ hm2), nm2, r9.trans (r10.trans r11), EL.app (.cons (cE.same s4) .nil) (elM1.same s4), .inr rfl⟩
    have elX := elP.same sBp
    have sp := spread_of due far ⟨hm, hle⟩ ⟨hm2', hle2⟩ wn hE
    have sG : L2.Same H B7 := sE.trans r11
    have lnX := elX.len
    have x0 := sp.ok.l0
    have x1 := sp.ok.l1
    walk_at "rd"
    refine ⟨⟨_, SqL.of hmm⟩, fun D5 nD5 => ?_⟩
    refine lc_pure (walk_list (xs := xs)) nD5 (by omega) (fun _ sm5 => SqL.of (sm5 _ _ hmm)) (fun i y => ∃ e, ES[i]? = some e ∧ y = .int e.1) (fun i x H9 HA Kn Z hi sm5 y q => ?_) (fun H9 is sm5 hD5 hl5 hr5 => ?_)
    · obtain ⟨rfl, hx⟩ := y
      obtain ⟨e, he, uu, rfl, hu⟩ := elX.at hx
      have hu' := sm5 _ _ hu
      walk_at "rd"
      exact q _ _ (Same.refl _) ⟨e, he, rfl⟩
    obtain rfl := ints_of (hl5.trans lnX) hr5
    refine ⟨D5, ES.map (·.1), rfl, SqL.of hD5, by rw [List.length_map]; omega, fun M hM hMle => ?_⟩
    have hmm9 := sm5 _ _ hmm
    refine ⟨_, rfl, mm, rfl, ⟨_, SqL.of hmm9⟩, fun D6 nD6 => ?_⟩
    refine lc_pure (walk_list (xs := xs)) nD6 (by omega) (fun _ sm6 => SqL.of (sm6 _ _ hmm9)) (fun i y => ∃ e, ES[i]? = some e ∧ y = .int e.1) (fun i x HA HB Kn Z hi sm6 y q => ?_) (fun HA is sm6 hD6 hl6 hr6 => ?_)
    · obtain ⟨rfl, hx⟩ := y
      obtain ⟨e, he, uu, rfl, hu⟩ := elX.at hx
      have hu' := sm6 _ _ (sm5 _ _ hu)
      walk_at "rd"
      exact q _ _ (Same.refl _) ⟨e, he, rfl⟩
    obtain rfl := ints_of (hl6.trans lnX) hr6
    refine ⟨D6, ES.map (·.1), rfl, SqL.of hD6, by rw [List.length_map]; omega, fun mn hmn hmnle => ?_⟩
    have s9A := sm5.trans sm6
    have lsF := spread_ls (K := K) sp far (elX.same s9A) ⟨hM, hMle⟩ ⟨hmn, hmnle⟩
    have repX : ∀ x ∈ xs, RepOk K Bp x := fun x hx => by
      obtain ⟨j, hj⟩ := List.mem_iff_getElem?.mp hx
      obtain ⟨g, hg, q⟩ := elP.at hj
      exact rep_ent q (sp.ok.ok g (List.mem_of_getElem? hg))
    obtain ⟨as, ts, sw, la, lt, nn⟩ := rep_list repX
    have hmmA := s9A _ _ hmm
    have fin : ∀ (z : Str) (b : Addr) (E' : XK), Ls K HA xs (.many z) → HA b = none → spBoth K t [.ref mm, .ref b] (upd HA b (.lst [.str "many", .str z, .int 3, .bl true])) Q E' := fun z b E' lz nb => by
      have sb := Same.new (o := .lst [V.str "many", V.str z, V.int 3, V.bl true]) nb
      have sAll := sG.trans (s9A.trans sb)
      exact ⟨mm, b, xs, .many z, rfl, sb _ _ hmmA, by omega, by omega, lz.same sb, trivial, upd_same, ne_of_none hmmA nb, tb.ext sAll, ⟨as, ts, SwL_same (sBp.trans (s9A.trans sb)) sw, fun m => nn _ m nmm, by omega, Nat.le_trans (m := 200000) (by omega) (by decide)⟩, fun H9 e9 T9 => k H9 ((ExtN.of sAll).trans e9) T9⟩
    walk_at "rd"
    refine ite2 (fun c => ?_) (fun c => ?_)
    · have cc : 3 < M - mn := of_decide_eq_true c
      rw [if_pos cc] at lsF
      refine ⟨by show (4 : Nat) ≤ sizeLine; decide +kernel, fun b nb => ?_⟩
      exact fin "across" b E lsF nb
    · have cc : ¬ 3 < M - mn := fun z => c (decide_eq_true z)
      rw [if_neg cc] at lsF
      refine ⟨by show (4 : Nat) ≤ sizeLine; decide +kernel, fun b nb => ?_⟩
      exact fin "up" b E lsF nb
end
end K13

set_option Elab.async false
set_option linter.all false
set_option maxHeartbeats 1000000
/-! a dict display whose keys are tuples -/
namespace Lay
open PySem L2 PyProof.Rows
abbrev Tk := List Key × Addr × V
/-- stored one by one, from the left -/
def laidT : List (List Key × V) → List Tk → List (List Key × V)
  | acc, [] => acc
  | acc, p :: r => laidT (putK acc p.1 p.2.2) r
theorem laidT_len : ∀ (ps : List Tk) (acc : List (List Key × V)), (laidT acc ps).length ≤ acc.length + ps.length
  | [], acc => by show acc.length ≤ _; simp
  | p :: r, acc => by
    have h1 := laidT_len r (putK acc p.1 p.2.2)
    have h2 := length_putK acc p.1 p.2.2
    rw [List.length_cons]
    show (laidT (putK acc p.1 p.2.2) r).length ≤ _
    omega
theorem laidT_rel {H : Hp} {ps : List Tk} {qs : List (List Key × Addr × Value)} (h : Paired (fun p q => p.1 = q.1 ∧ p.2.1 = q.2.1 ∧ H p.2.1 = some (.tup (p.1.map kV)) ∧ RelV p.2.2 q.2.2) ps qs) :
    ∀ {acc : List (List Key × V)} {xs : List (List Key × Addr × Value)}, KT H acc xs → KT H (laidT acc ps) (storedAllH xs qs) := by
  induction h with
  | nil => intro _ _ r; exact r
  | @cons p q ps qs e _ ih =>
    intro acc xs r
    obtain ⟨e1, e2, e3, e4⟩ := e
    have z : KT H (putK acc p.1 p.2.2) (storedH xs q.1 q.2.1 q.2.2) := by
      rw [← e1]
      exact r.put p.1 (by rw [← e2]; exact e3) e4
    exact ih z
def tDispT (trs : List (TE × TE)) : TE := fun σ H Q => ∀ d, H d = none → tPairs trs σ (upd H d (.dT [])) fun ps H2 => H2 d = some (.dT []) ∧ ∃ ks : List Tk, ps = ks.map (fun p => (V.ref p.2.1, p.2.2)) ∧
  (∀ p ∈ ks, H2 p.2.1 = some (.tup (p.1.map kV))) ∧ ks.length ≤ 15 ∧ Q (.ref d) (upd H2 d (.dT (laidT [] ks)))
theorem carriesT {P : Program} {w : World} {H : Hp} {h : Heap} (ok : HOk P w H h) : ∀ {ks : List Tk} {ws : List (Value × Value)}, (∀ p ∈ ks, H p.2.1 = some (.tup (p.1.map kV))) → VV (ks.map fun p => (V.ref p.2.1, p.2.2)) ws →
    ∃ qs, CarriesH (tupleKind (mixKind P w)) h ws qs ∧ Paired (fun p q => p.1 = q.1 ∧ p.2.1 = q.2.1 ∧ H p.2.1 = some (.tup (p.1.map kV)) ∧ RelV p.2.2 q.2.2) ks qs
  | [], _, _, r => by cases r; exact ⟨[], trivial, .nil⟩
  | p :: ks, _, hk, r => by
    rw [List.map_cons] at r
    cases r with
    | @cons _ u _ us e t =>
      obtain ⟨qs, c, q⟩ := carriesT ok (fun y hy => hk y (List.mem_cons_of_mem _ hy)) t
      have hp := hk p (List.mem_cons_self ..)
      obtain ⟨u1, u2⟩ := u
      obtain rfl : u1 = Value.ref p.2.1 := e.1
      exact ⟨(p.1, p.2.1, u2) :: qs, ⟨rfl, rfl, key_of ok hp, c⟩, .cons ⟨rfl, rfl, hp, e.2⟩ q⟩
theorem pe_dispT {X : Cx} {pos : Pos} {keys : List (Option Expr)} {values : List Expr} {trs : List (TE × TE)} (hu : (tupleKind (mixKind X.prog X.w)).room X.A) (h : PPs X pos keys values trs) (hall : keys.all (·.isSome) = true) (hl : keys.length = values.length)
    (h0 : keys ≠ []) (h15 : keys.length ≤ 15) : PE X (.Dict keys values pos) (tDispT trs) := by
  refine ⟨fun pins s σ H Q I q => ?_⟩
  have len := pairTrees_length keys values X.env pos hall hl
  have ne : pairTrees keys values X.env pos ≠ [] := fun z => h0 (List.length_eq_zero_iff.mp (by rw [← len, z]; rfl))
  have hn := I.hok.fresh (Nat.le_refl s.heap.objs.size)
  have I1 := I.laid (a := s.heap.objs.size) (o := .dT []) (h' := s.heap.push { cls := .type "dict", data := .dict #[] }) (t' := s.toks) (fun _ _ q => Heap.get?_push_of_some _ q) (Nat.le_refl _) (dt_empty s.heap I.big)
  rw [arm_eval_Dict, zip_pairTrees keys values X.env pos hall hl, dictDisplay_pairs _ ne (by omega)]
  refine wpAny_bind (wpAny_standAt (wpAny_bind ?_))
  refine wpAny_subDictH (knd := tupleKind (mixKind X.prog X.w)) (Q := fun d s' => wpAny (model X.prog X.w) X.A (pure (Value.ref d)) _ _ s') hu (by omega) ?_
  refine thn (h.run pins _ σ _ _ I1 (q _ hn)) fun ws s2 ⟨ps, H2, I2, rel, e, ks, ep, hk, lk, q2⟩ => ?_
  subst ep
  obtain ⟨qs, c, pr⟩ := carriesT I2.hok hk rel
  obtain ⟨z, hd, vs0, r0, dd⟩ := dt_of I2.hok e
  cases r0
  refine ⟨qs, c, dd, fun h' tk dd' hs => wpAny_pure ⟨.ref s.heap.objs.size, _, ?_, rfl, q2⟩⟩
  have lz : (laidT [] ks).length ≤ sizeLine := by
    have h1 := laidT_len ks []
    rw [List.length_nil] at h1
    rw [sizeLine_eq]; omega
  have rk : KT H2 (laidT [] ks) (storedAllH [] qs) := laidT_rel pr .nil
  obtain ⟨o, es, ep, g1, g2, g3, g4, _, g5⟩ := dd'
  refine d_write I2 (by rw [e]; exact True.intro) hs ⟨o, g1⟩ ⟨lz, hd, _, rk.keeps fun c ys ec => ?_, o, es, ep, g1, g2, g3, g4, g5⟩
  rw [upd_ne (ne_of ec e (fun z => nomatch z))]
  exact ec
end Lay

set_option Elab.async false
set_option linter.all false
set_option maxRecDepth 100000
set_option maxHeartbeats 4000000
namespace K13
open PySem L2 Lay Own SrtO LamX
local macro_rules | `(tactic| walk_at "ne") => `(tactic| first | assumption | (apply Ne.symm; assumption) | exact ne_of_none (by walk_at "look") (by assumption) | exact (ne_of_none (by walk_at "look") (by assumption)).symm)
local macro_rules | `(tactic| walk_at "look") => `(tactic| first | assumption | exact upd_same | (refine Eq.trans (upd_ne ?_) ?_; walk_at "ne"; walk_at "look"))
local macro_rules | `(tactic| walk_at "rds") => `(tactic| first | rfl | assumption | walk_at "look" | exact SqL.of (by walk_at "look") | exact SqT.of (by walk_at "look") | exact Or.inl (SqL.of (by walk_at "look")) | exact Or.inl (by assumption) | decide | omega | exact Nat.le_of_ble_eq_true rfl | exact Or.inr ⟨by decide, by decide⟩ | exact Or.inl ⟨by omega, by omega⟩ | exact ⟨by decide, by decide⟩)
local macro_rules | `(tactic| walk_at "rd1") => `(tactic| first | (apply Exists.intro) | (refine And.intro ?_ ?_; walk_at "rds") | (refine Or.inl ?_; apply Exists.intro; refine And.intro ?_ ?_; rfl))
local macro_rules | `(tactic| walk_at "rd") => `(tactic| repeat walk_at "rd1")
section
variable {P : Program} {w : World} {K : PySem.W.Frag} {mg : Str → Option Value} {base : Heap} {t : Tbs} {H H' : Hp}
theorem ix_listK {cx : Cx} {C : PySem.W.Frag} (h : cx.K = C) : IxR cx (rIxL C) := h ▸ ix_list
theorem few_ne {l d : Addr} {Q : VK} (hl : H l = some (.lst (dueL (.pos .non)))) (hd : H d = some (.lst (dueL (.pos .non)))) (k : Q (.bl false) H) : rNeD K (.ref l) (.ref d) H Q := by
  have a : DpAll K H (dueL (.pos .non)) (dueD (.pos .non)) := .cons (.str _) (.cons .non (.cons (.bl _) .nil))
  refine ⟨_, _, .lst (SqL.of hl) a, .lst (SqL.of hd) a, by decide +kernel, by decide +kernel, ?_⟩
  have e : (!PyData.eqv (.list (dueD (.pos .non))) (.list (dueD (.pos .non)))) = false := by decide +kernel
  rw [e]
  exact k
def tks (b0 b1 : Addr) (w3 : Str) : List Tk := [([Sum.inl (0 + ((0 : Nat) : Int)), Sum.inl 0, Sum.inr w3], b0, V.int 1), ([Sum.inl (0 + ((1 : Nat) : Int)), Sum.inl 0, Sum.inr w3], b1, V.int 2)]
def spFew (K : PySem.W.Frag) (t : Tbs) : Sp := fun vs H Q _ => ∃ a zs es, vs = [.ref a] ∧ H a = some (.lst zs) ∧ EL H zs es ∧ Due es ∧ Tabs t.l H ∧ ∀ H', ExtN H H' → Tabs t.l H' → Q (.bl true) H'
theorem d_few13 (TT : TxT K mg base t) : Df P w K mg base 12 "_law_few_right" ["_law_some"] (spFew K t) := by
  have T := TT.T
  obtain ⟨mc, cr, ⟨pst, cst⟩, _⟩ := T.cr
  obtain ⟨fdo, D_of, _, B_of⟩ := d_of (P := P) (w := w) (base := base) T
  refine TT.f.by sc_l_few_right (fun vs H Q E h => ?_) (fun TB f A outer s H vs Q E hr hgd h => ?_)
  · obtain ⟨a, zs, es, rfl, _⟩ := h; rfl
  · obtain ⟨a, zs, es, rfl, ha, el, due, tb, k⟩ := h
    have hmT : (t.P2, lq "_law_few_right") ∈ t.l := by simp [Tbs.l]
    have hu := TT.u2
    refine ⟨_, (pss_cons (ps_set (i := 1) sc_l_few_right.nd rfl (by first | exact Or.inl rfl | exact Or.inr rfl) (pe_lst (pa_cons pe_str (pa_cons pe_non (pa_cons pe_bl pa_nil)))))
      (pss_cons (ps_for PassesOwn.never rfl (pi_list (pe_lst (pa_cons (pe_lst pa_nil) (pa_cons (pe_slice sl_list (pv 0) po_none (po_some pe_int)) pa_nil)))) (pg_name (i := 2) sc_l_few_right.nd rfl (by first | exact Or.inl rfl | exact Or.inr rfl)) (pss_one (ps_if (pt_cmpR (op_neD (un64 hr)) (pe_heard (k := 9) T hgd TB rfl hmT hu (hr.mono (by first | decide | omega)) (LamX.lamS_by (sc := defScope s_l_few_right) (by decide +kernel)) rfl (fun _ _ _ _ _ => rfl) (fun A2 outer2 s2 H2 E2 f2 c2 hr2 hg2 => (Rx.pe_staX Rx.takesL (pe_glob (v := .ref (He.ga K "Kind")) (by rfl) T.g_Kind rfl) cr cst (d_of (P := P) (w := w) (base := base) T).fp (hr2.mono (by first | decide | omega)) hg2 (pa_cons (pv 2) pa_nil)))) (pv 1) (nomark _)) (pss_one (ps_ret pe_bl)) pss_nil)))
      (pss_cons (ps_if (pt_cmpR (op_neD (un64 hr)) (pe_heard (k := 9) T hgd TB rfl hmT hu (hr.mono (by first | decide | omega)) (LamX.lamS_by (sc := defScope s_l_few_right) (by decide +kernel)) rfl (fun _ _ _ _ _ => rfl) (fun A2 outer2 s2 H2 E2 f2 c2 hr2 hg2 => (Rx.pe_makeX0 Rx.takesL T.maker (d_init T) (hr2.mono (by first | decide | omega)) hg2 T.g_Kind))) (pv 1) (nomark _)) (pss_one (ps_ret pe_bl)) pss_nil)
      (pss_cons (ps_if (pt_cmpR (op_neD (un64 hr)) (pe_heard (k := 9) T hgd TB rfl hmT hu (hr.mono (by first | decide | omega)) (LamX.lamS_by (sc := defScope s_l_few_right) (by decide +kernel)) rfl (fun _ _ _ _ _ => rfl) (fun A2 outer2 s2 H2 E2 f2 c2 hr2 hg2 => (Rx.pe_makeX Rx.takesL T.maker (d_init T) (hr2.mono (by first | decide | omega)) hg2 T.g_Kind (pa_cons (pe_ix  (ix_listK (C := K) rfl) (pv 0) pe_int (fun _ _ => rfl)) pa_nil)))) (pv 1) (nomark _)) (pss_one (ps_ret pe_bl)) pss_nil)
      (pss_cons (ps_set (i := 3) sc_l_few_right.nd rfl (by first | exact Or.inl rfl | exact Or.inr rfl) (pe_op op_cat (pe_lc (own := [("_law_k", 6)]) rfl sc_l_few_right.nd (pi_range1 (by rfl) T.n_range (pa_cons pe_int pa_nil)) (blkOk_by (own := [("_law_k", 6)]) (N := ["_law_some", "_law_due", "_law_few", "_law_many", "_law_more", "_law_thing", "_law_k"]) (sc := defScope s_l_few_right) (by decide +kernel)) (fun _ _ _ _ _ => (pg_name (i := 6) sc_l_few_right.nd rfl (by first | exact Or.inl rfl | exact Or.inr rfl))) (fun _ _ _ _ _ => pts_nil) (fun _ _ _ _ _ => (pe_tup (pa_cons (pv 6) (pa_cons pe_int (pa_cons (pe_ix  (ix_tupK (C := K) rfl) (pe_ix  (ix_listK (C := K) rfl) (pv 0) pe_int (fun _ _ => rfl)) pe_int (fun _ _ => rfl)) pa_nil)))))) (pe_lc (own := [("_law_k", 6)]) rfl sc_l_few_right.nd (pi_range1 (by rfl) T.n_range (pa_cons pe_int pa_nil)) (blkOk_by (own := [("_law_k", 6)]) (N := ["_law_some", "_law_due", "_law_few", "_law_many", "_law_more", "_law_thing", "_law_k"]) (sc := defScope s_l_few_right) (by decide +kernel)) (fun _ _ _ _ _ => (pg_name (i := 6) sc_l_few_right.nd rfl (by first | exact Or.inl rfl | exact Or.inr rfl))) (fun _ _ _ _ _ => pts_nil) (fun _ _ _ _ _ => (pe_tup (pa_cons (pv 6) (pa_cons pe_int (pa_cons (pe_ix  (ix_tupK (C := K) rfl) (pe_ix  (ix_listK (C := K) rfl) (pv 0) pe_int (fun _ _ => rfl)) pe_int (fun _ _ => rfl)) pa_nil))))))))
      (pss_cons (ps_for PassesOwn.never rfl (pi_list (pe_lst (pa_cons (pv 3) (pa_cons (pe_op op_cat (pv 3) (pe_lst (pa_cons pe_non pa_nil))) (pa_cons (pe_callTy call_tuple_of (by rfl) T.n_tuple (by decide +kernel) (pa_cons (pv 3) pa_nil)) pa_nil))))) (pg_name (i := 4) sc_l_few_right.nd rfl (by first | exact Or.inl rfl | exact Or.inr rfl)) (pss_one (ps_if (pt_cmpR (op_neD (un64 hr)) (pe_heard (k := 9) T hgd TB rfl hmT hu (hr.mono (by first | decide | omega)) (LamX.lamS_by (sc := defScope s_l_few_right) (by decide +kernel)) rfl (fun _ _ _ _ _ => rfl) (fun A2 outer2 s2 H2 E2 f2 c2 hr2 hg2 => (Rx.pe_staX Rx.takesL (pe_glob (v := .ref (He.ga K "Kind")) (by rfl) T.g_Kind rfl) cr cst (d_of (P := P) (w := w) (base := base) T).fp (hr2.mono (by first | decide | omega)) hg2 (pa_cons (pv 4) pa_nil)))) (pv 1) (nomark _)) (pss_one (ps_ret pe_bl)) pss_nil)))
      (pss_cons (ps_if (pt_cmpR (op_neD (un64 hr)) (pe_heard (k := 9) T hgd TB rfl hmT hu (hr.mono (by first | decide | omega)) (LamX.lamS_by (sc := defScope s_l_few_right) (by decide +kernel)) rfl (fun _ _ _ _ _ => rfl) (fun A2 outer2 s2 H2 E2 f2 c2 hr2 hg2 => (Rx.pe_makeX Rx.takesL T.maker (d_init T) (hr2.mono (by first | decide | omega)) hg2 T.g_Kind (pa_cons (pe_ix  (ix_listK (C := K) rfl) (pv 3) pe_int (fun _ _ => rfl)) (pa_cons (pe_ix  (ix_listK (C := K) rfl) (pv 3) pe_int (fun _ _ => rfl)) (pa_cons (pe_ix  (ix_listK (C := K) rfl) (pv 3) pe_int (fun _ _ => rfl)) (pa_cons (pe_ix  (ix_listK (C := K) rfl) (pv 3) pe_int (fun _ _ => rfl)) (pa_cons (pe_ix  (ix_listK (C := K) rfl) (pv 3) pe_int (fun _ _ => rfl)) (pa_cons (pe_ix  (ix_listK (C := K) rfl) (pv 3) pe_int (fun _ _ => rfl)) (pa_cons pe_non pa_nil)))))))))) (pv 1) (nomark _)) (pss_one (ps_ret pe_bl)) pss_nil)
      (pss_cons (ps_for PassesOwn.never rfl (pi_list (pe_lst (pa_cons pe_non (pa_cons pe_int (pa_cons pe_str (pa_cons pe_dnewK (pa_cons (pe_dispT (Nat.lt_of_le_of_lt (Nat.le_add_right _ 64) (un64 hr)) (pps_cons (pe_ix (ix_listK (C := K) rfl) (pv 3) pe_int (fun _ _ => rfl)) pe_int (pps_cons (pe_ix (ix_listK (C := K) rfl) (pv 3) pe_int (fun _ _ => rfl)) pe_int pps_nil)) (by rfl) (by rfl) (fun z => by cases z) (by decide)) (pa_cons pe_bl (pa_cons (pe_op op_add_str (pe_ix  (ix_tupK (C := K) rfl) (pe_ix  (ix_listK (C := K) rfl) (pv 0) pe_int (fun _ _ => rfl)) pe_int (fun _ _ => rfl)) (pe_ix  (ix_tupK (C := K) rfl) (pe_ix  (ix_listK (C := K) rfl) (pv 0) pe_int (fun _ _ => rfl)) pe_int (fun _ _ => rfl))) pa_nil))))))))) (pg_name (i := 5) sc_l_few_right.nd rfl (by first | exact Or.inl rfl | exact Or.inr rfl)) (pss_one (ps_if (pt_cmpR (op_neD (un64 hr)) (pe_heard (k := 9) T hgd TB rfl hmT hu (hr.mono (by first | decide | omega)) (LamX.lamS_by (sc := defScope s_l_few_right) (by decide +kernel)) rfl (fun _ _ _ _ _ => rfl) (fun A2 outer2 s2 H2 E2 f2 c2 hr2 hg2 => (Rx.pe_staX Rx.takesL (pe_glob (v := .ref (He.ga K "Kind")) (by rfl) T.g_Kind rfl) cr cst (d_of (P := P) (w := w) (base := base) T).fp (hr2.mono (by first | decide | omega)) hg2 (pa_cons (pv 5) pa_nil)))) (pv 1) (nomark _)) (pss_one (ps_ret pe_bl)) pss_nil)))
      (pss_one (ps_ret pe_bl)))))))))), ?_⟩
    have ln := el.len
    have l0 := due.ok.l0
    have l1 := due.ok.l1
    walk_at "rd"
    intro du ndu
    obtain ⟨G1, q1, s1, h1⟩ := laid (o := .lst [.str "entries", .non, .bl true]) ndu
    rw [q1]
    walk_at "rd"
    intro p0 np0
    obtain ⟨G2, q2, s2, h2⟩ := laid (o := .lst []) np0
    rw [q2]
    have ha2 := s2 _ _ (s1 _ _ ha)
    walk_at "rd"
    intro p1 np1
    have c1 : cutV zs none (some (1 : Int)) = zs.take 1 := cut_any (i := 1)
    rw [c1]
    obtain ⟨G3, q3, s3, h3⟩ := laid (o := .lst (zs.take 1)) np1
    rw [q3]
    refine ⟨by show (2 : Nat) ≤ sizeLine; decide +kernel, fun l1a nl1 => ?_⟩
    obtain ⟨G4, q4, s4, h4⟩ := laid (o := .lst [.ref p0, .ref p1]) nl1
    rw [q4]
    have hdu4 := s4 _ _ (s3 _ _ (s2 _ _ h1))
    have e14 : ExtN H G4 := .of (s1.trans (s2.trans (s3.trans s4)))
    have tb4 : Tabs t.l G4 := tb.ext (s1.trans (s2.trans (s3.trans s4)))
    have hp0 := s4 _ _ (s3 _ _ h2)
    have hp1 := s4 _ _ h3
    refine ⟨_, rfl, ⟨_, SqL.of h4⟩, ?_⟩
    refine for_it (walk_list (xs := [V.ref p0, V.ref p1])) (fun i σ H' => (∃ x2, σ = [some (.ref a), some (.ref du), x2, none, none, none, none]) ∧ ExtN G4 H' ∧ Tabs t.l H') ⟨⟨_, rfl⟩, .of (Same.refl _), tb4⟩ (fun i σ H' _ h => SqL.of (h.2.1 _ _ h4 nt_lst)) (fun i x σ H5 H6 hi h y => ?_) (fun σ H' h => ?_)
    · obtain ⟨⟨x2, rfl⟩, e5, T5⟩ := h
      obtain ⟨rfl, hx⟩ := y
      obtain ⟨pp, ys, rfl, hpp, ly⟩ : ∃ pp ys, x = .ref pp ∧ G4 pp = some (.lst ys) ∧ ys.length < 2 := by
        rcases List.mem_cons.mp (List.mem_of_getElem? hx) with rfl | hm
        · exact ⟨p0, _, rfl, hp0, by simp⟩
        · obtain rfl := List.mem_singleton.mp hm
          exact ⟨p1, _, rfl, hp1, by rw [List.length_take]; omega⟩
      have hpp5 := e5 _ _ hpp nt_lst
      refine lam_use (oc := .pos .non) T5 trivial (fun E2 R H2 eN tl => ⟨rfl, _, rfl, .ref pp, rfl, .inr ⟨pp, ys, .pos .non, rfl, .inl (eN _ _ hpp5 nt_lst), by omega, .few (.inl ly), tl⟩⟩) (fun l H7 e7 T7 nl hl => ?_)
      refine ⟨_, rfl, few_ne hl (e7 _ _ (e5 _ _ hdu4 nt_lst) nt_lst) ?_⟩
      refine ⟨_, rfl, iteF ?_⟩
      exact ⟨⟨_, rfl⟩, e5.trans e7, T7⟩
    obtain ⟨⟨x2, rfl⟩, e5, T5⟩ := h
    have hdu5 := e5 _ _ hdu4 nt_lst
    refine lam_use (oc := .pos .non) T5 trivial (fun E2 R H2 eN tl x dx nx nd ne => make_told (by simp) (.few (.inl (by simp))) tl x dx nx nd ne) (fun l H7 e7 T7 nl hl => ?_)
    have hdu7 := e7 _ _ hdu5 nt_lst
    refine ⟨_, rfl, few_ne hl hdu7 ?_⟩
    refine ⟨_, rfl, iteF ?_⟩
    have e07 := e14.trans (e5.trans e7)
    have ha7 := e07 _ _ ha nt_lst
    obtain ⟨z0, hz0⟩ : ∃ z0, zs[0]? = some z0 := ⟨_, List.getElem?_eq_getElem (by omega)⟩
    obtain ⟨e0, he0, hx0⟩ := el.at hz0
    refine lam_use (oc := .pos .non) T7 trivial (fun E2 R H2 eN tl => ⟨_, rfl, a, zs, ((0 : Nat) : Int), z0, rfl, rfl, SqL.of (eN _ _ ha7 nt_lst), atI_nat hz0, fun x dx nx nd ne => make_told (xs := [z0]) (by simp) (.few (.inl (by simp))) tl x dx nx nd ne⟩) (fun l2 H8 e8 T8 nl2 hl2 => ?_)
    have hdu8 := e8 _ _ hdu7 nt_lst
    refine ⟨_, rfl, few_ne hl2 hdu8 ?_⟩
    refine ⟨_, rfl, iteF ?_⟩
    have ha8 := e8 _ _ ha7 nt_lst
    have e08 := e07.trans e8
    have x08 := EntT.ext hx0 e08
    walk_at "rd"
    intro D1 nD1
    obtain ⟨w1, w2, w3⟩ := e0
    obtain ⟨u0, rfl, hu0⟩ := x08
    have at0 : atI zs 0 = some (.ref u0) := atI_nat hz0
    have wn : Wd w3 := due.wd _ (List.mem_of_getElem? he0)
    refine lc_depI (n := 4) walk_range nD1 (by omega) (fun _ _ => trivial) (fun i H v => EntT H v (0 + (i : Int), 0, w3)) (fun i H H' v s h => h.same s) (fun i H xs ys v hD h => h.mut hD) (fun i x H4 H5 Kn Z hi sm hD y q => ?_) (fun H9 ys sm9 hD9 hl9 hr9 => ?_)
    · obtain ⟨rfl, rfl⟩ := y
      have hu := sm _ _ hu0
      have ha4 := sm _ _ ha8
      walk_at "rd"
      exact fun p np => q _ _ (Same.new np) ⟨p, rfl, upd_same⟩
    have ha9 := sm9 _ _ ha8
    have hu9 := sm9 _ _ hu0
    walk_at "rd"
    intro D2 nD2
    refine lc_depI (n := 3) walk_range nD2 (by omega) (fun _ _ => trivial) (fun i H v => EntT H v (0 + (i : Int), 1, w3)) (fun i H H' v s h => h.same s) (fun i H xs ys v hD h => h.mut hD) (fun i x H4 H5 Kn Z hi sm hD y q => ?_) (fun HA zz smA hDA hlA hrA => ?_)
    · obtain ⟨rfl, rfl⟩ := y
      have hu := sm _ _ hu9
      have ha4 := sm _ _ ha9
      walk_at "rd"
      exact fun p np => q _ _ (Same.new np) ⟨p, rfl, upd_same⟩
    refine ⟨D1, D2, ys, zz, rfl, rfl, smA _ _ hD9, hDA, Nat.le_trans (m := 100) (by omega) (by decide), fun mn nmn => ?_⟩
    obtain ⟨GB, qB, sB, hB⟩ := laid (o := .lst (ys ++ zz)) nmn
    rw [qB]
    have e0B : ExtN H GB := e08.trans (.of (sm9.trans (smA.trans sB)))
    have tbB : Tabs t.l GB := T8.ext (sm9.trans (smA.trans sB))
    have hduB := (sm9.trans (smA.trans sB)) _ _ hdu8
    have haB := (sm9.trans (smA.trans sB)) _ _ ha8
    have huB := (sm9.trans (smA.trans sB)) _ _ hu0
    have lm : (ys ++ zz).length = 7 := by simp; omega
    have mE : ∀ (i : Nat) y, i < 4 → (ys ++ zz)[i]? = some y → EntT GB y (0 + (i : Int), 0, w3) := fun i y hi h => by
      rw [List.getElem?_append_left (by omega)] at h
      exact (hr9 i y h).same (smA.trans sB)
    obtain ⟨m0, hm0⟩ : ∃ m, (ys ++ zz)[0]? = some m := ⟨_, List.getElem?_eq_getElem (by omega)⟩
    obtain ⟨m1, hm1⟩ : ∃ m, (ys ++ zz)[1]? = some m := ⟨_, List.getElem?_eq_getElem (by omega)⟩
    obtain ⟨m2, hm2⟩ : ∃ m, (ys ++ zz)[2]? = some m := ⟨_, List.getElem?_eq_getElem (by omega)⟩
    obtain ⟨m3, hm3⟩ : ∃ m, (ys ++ zz)[3]? = some m := ⟨_, List.getElem?_eq_getElem (by omega)⟩
    obtain ⟨m4, hm4⟩ : ∃ m, (ys ++ zz)[4]? = some m := ⟨_, List.getElem?_eq_getElem (by omega)⟩
    obtain ⟨m5, hm5⟩ : ∃ m, (ys ++ zz)[5]? = some m := ⟨_, List.getElem?_eq_getElem (by omega)⟩
    obtain ⟨b0, rfl, hb0⟩ := mE 0 m0 (by omega) hm0
    obtain ⟨b1, rfl, hb1⟩ := mE 1 m1 (by omega) hm1
    generalize ys ++ zz = ms at *
    have at0 : atI ms 0 = some (.ref b0) := atI_nat hm0
    have at1 : atI ms 1 = some (.ref b1) := atI_nat hm1
    have at2 : atI ms 2 = some m2 := atI_nat hm2
    have at3 : atI ms 3 = some m3 := atI_nat hm3
    have at4 : atI ms 4 = some m4 := atI_nat hm4
    have at5 : atI ms 5 = some m5 := atI_nat hm5
    have lq : ∀ (x : V), (ms ++ [x]).length = 8 := fun x => by rw [List.length_append, lm]; rfl
    walk_at "rd"
    intro k1 nk1
    obtain ⟨GC, qC, sC, hC⟩ := laid (o := .lst [.non]) nk1
    rw [qC]
    refine ⟨mn, k1, ms, [.non], rfl, rfl, sC _ _ hB, hC, Nat.le_trans (m := 100) (by show ms.length + 1 ≤ 100; omega) (by decide), fun m8 nm8 => ?_⟩
    obtain ⟨GD, qD, sD, hD⟩ := laid (o := .lst (ms ++ [.non])) nm8
    rw [qD]
    refine ⟨_, rfl, mn, ms, rfl, .inl ⟨SqL.of (sD _ _ (sC _ _ hB)), fun tp ntp => ?_⟩⟩
    obtain ⟨GE, qE, sE, hE⟩ := laid (o := .tup ms) ntp
    rw [qE]
    refine ⟨by show (3 : Nat) ≤ sizeLine; decide +kernel, fun l2a nl2a => ?_⟩
    obtain ⟨GF, qF, sF, hF⟩ := laid (o := .lst [.ref mn, .ref m8, .ref tp]) nl2a
    rw [qF]
    have sBF := sC.trans (sD.trans (sE.trans sF))
    have tbF : Tabs t.l GF := tbB.ext sBF
    have hduF := sBF _ _ hduB
    have hmnF := sBF _ _ hB
    have hm8F := sF _ _ (sE _ _ hD)
    have htpF := sF _ _ hE
    refine ⟨_, rfl, ⟨_, SqL.of hF⟩, ?_⟩
    refine for_it (walk_list (xs := [V.ref mn, V.ref m8, V.ref tp])) (fun i σ H' => (∃ x4 x6, σ = [some (.ref a), some (.ref du), x2, some (.ref mn), x4, none, x6]) ∧ ExtN GF H' ∧ Tabs t.l H') ⟨⟨_, _, rfl⟩, .of (Same.refl _), tbF⟩ (fun i σ H' _ h => SqL.of (h.2.1 _ _ hF nt_lst)) (fun i x σ H5 H6 hi h y => ?_) (fun σ H' h => ?_)
    · obtain ⟨⟨x4, x6, rfl⟩, e5, T5⟩ := h
      obtain ⟨rfl, hx⟩ := y
      obtain ⟨pp, ys, rfl, hpp, ly⟩ : ∃ pp ys, x = .ref pp ∧ (GF pp = some (.lst ys) ∨ GF pp = some (.tup ys)) ∧ 6 < ys.length ∧ ys.length ≤ 1000 := by
        rcases List.mem_cons.mp (List.mem_of_getElem? hx) with rfl | hm
        · exact ⟨mn, _, rfl, .inl hmnF, by omega, by omega⟩
        · rcases List.mem_cons.mp hm with rfl | hm
          · exact ⟨m8, _, rfl, .inl hm8F, by rw [lq]; decide, by rw [lq]; decide⟩
          · obtain rfl := List.mem_singleton.mp hm
            exact ⟨tp, _, rfl, .inr htpF, by omega, by omega⟩
      refine lam_use (oc := .pos .non) T5 trivial (fun E2 R H2 eN tl => ⟨rfl, _, rfl, .ref pp, rfl, .inr ⟨pp, ys, .pos .non, rfl, ?_, by omega, .few (.inr ly.1), tl⟩⟩) (fun l H7 e7 T7 nl hl => ?_)
      · rcases hpp with hpp | hpp
        · exact .inl (eN _ _ (e5 _ _ hpp nt_lst) nt_lst)
        · exact .inr (eN _ _ (e5 _ _ hpp fun ps z => by cases z) fun ps z => by cases z)
      refine ⟨_, rfl, few_ne hl (e7 _ _ (e5 _ _ hduF nt_lst) nt_lst) ?_⟩
      refine ⟨_, rfl, iteF ?_⟩
      exact ⟨⟨_, _, rfl⟩, e5.trans e7, T7⟩
    obtain ⟨⟨x4, x6, rfl⟩, eF, TF⟩ := h
    have hduG := eF _ _ hduF nt_lst
    have hmnG := eF _ _ hmnF nt_lst
    refine lam_use (oc := .pos .non) TF trivial (fun E2 R H2 eN tl => ?_) (fun l H7 e7 T7 nl hl => ?_)
    · have hq := eN _ _ hmnG nt_lst
      have hsq : SqL K H2 mn ms := SqL.of hq
      walk_at "rd"
      exact fun x dx nx nd ne => make_told (xs := [.ref b0, .ref b1, m2, m3, m4, m5, .non]) (by simp) (.few (.inr (by simp))) tl x dx nx nd ne
    have hduI := e7 _ _ hduG nt_lst
    refine ⟨_, rfl, few_ne hl hduI ?_⟩
    refine ⟨_, rfl, iteF ?_⟩
    have hmnI := e7 _ _ hmnG nt_lst
    have nt_tup : ∀ {xs : List V} ps, HO.tup xs ≠ .tbl ps := fun ps z => by cases z
    have hb0I : H7 b0 = some (.tup [.int (0 + ((0 : Nat) : Int)), .int 0, .str w3]) := e7 _ _ (eF _ _ (sBF _ _ hb0) nt_tup) nt_tup
    have hb1I : H7 b1 = some (.tup [.int (0 + ((1 : Nat) : Int)), .int 0, .str w3]) := e7 _ _ (eF _ _ (sBF _ _ hb1) nt_tup) nt_tup
    have eI : ExtN H H7 := e0B.trans ((ExtN.of sBF).trans (eF.trans e7))
    have haI := eI _ _ ha nt_lst
    have huI : H7 u0 = some (.tup [.int w1, .int w2, .str w3]) := e7 _ _ (eF _ _ (sBF _ _ huB) nt_tup) nt_tup
    have atz : atI zs 0 = some (.ref u0) := atI_nat hz0
    intro v1 nv1
    obtain ⟨J1, qJ, r1, hJ1⟩ := laid (o := .dK []) nv1
    rw [qJ]
    intro v2 nv2
    obtain ⟨J2, qJ, r2, hJ2⟩ := laid (o := .dT []) nv2
    rw [qJ]
    have hmnJ := r2 _ _ (r1 _ _ hmnI)
    have hsJ : SqL K J2 mn ms := SqL.of hmnJ
    walk_at "rd"
    refine ⟨show _ = List.map _ (tks b0 b1 w3) from rfl, fun p hp => ?_, by show (2 : Nat) ≤ 15; decide, ?_⟩
    · have s2' := r1.trans r2
      rcases List.mem_cons.mp hp with rfl | hp
      · exact s2' _ _ hb0I
      · obtain rfl := List.mem_singleton.mp hp
        exact s2' _ _ hb1I
    have r3 : L2.Same J1 (upd J2 v2 (.dT (laidT [] (tks b0 b1 w3)))) := Same.mut r2 nv2
    have hv2 : (upd J2 v2 (.dT (laidT [] (tks b0 b1 w3)))) v2 = some (.dT (laidT [] (tks b0 b1 w3))) := upd_same
    generalize upd J2 v2 (.dT (laidT [] (tks b0 b1 w3))) = J3 at r3 hv2 ⊢
    have hv1 := r3 _ _ hJ1
    have r13 := r1.trans r3
    have haJ := r13 _ _ haI
    have huJ := r13 _ _ huI
    have sqa : SqL K J3 a zs := SqL.of haJ
    have lw : w3.length + w3.length ≤ sizeLine := by
      have e : w3.length = w3.cps.toList.length := by simp [Str.length]
      have := wn.2.1
      exact Nat.le_trans (m := 100) (by omega) (by decide)
    walk_at "rd"
    intro l3 nl3
    obtain ⟨J4, qJ, r4, hJ4⟩ := laid (o := .lst [.non, .int 0, .str "ab", .ref v1, .ref v2, .bl true, .str (w3 ++ w3)]) nl3
    rw [qJ]
    have s14' := r13.trans r4
    have T4 : Tabs t.l J4 := T7.ext s14'
    have hduJ := s14' _ _ hduI
    have hv1' := r4 _ _ hv1
    have hv2' := r4 _ _ hv2
    refine ⟨_, rfl, ⟨_, SqL.of hJ4⟩, ?_⟩
    refine for_it (walk_list (xs := [V.non, .int 0, .str "ab", .ref v1, .ref v2, .bl true, .str (w3 ++ w3)])) (fun i σ H' => (∃ x5 x6, σ = [some (.ref a), some (.ref du), x2, some (.ref mn), x4, x5, x6]) ∧ ExtN J4 H' ∧ Tabs t.l H') ⟨⟨_, _, rfl⟩, .of (Same.refl _), T4⟩ (fun i σ H' _ h => SqL.of (h.2.1 _ _ hJ4 nt_lst)) (fun i x σ H5 H6 hi h y => ?_) (fun σ H' h => ?_)
    · obtain ⟨⟨x5, x7, rfl⟩, e5, T5⟩ := h
      obtain ⟨rfl, hx⟩ := y
      have nl : ∀ H2, ExtN H6 H2 → NoL H2 x := fun H2 eN => by
        have hm := List.mem_of_getElem? hx
        simp only [List.mem_cons, List.not_mem_nil, or_false] at hm
        rcases hm with rfl | rfl | rfl | rfl | rfl | rfl | rfl
        · exact .non
        · exact .int _
        · exact .str _
        · exact .dK (eN _ _ (e5 _ _ hv1' fun ps z => by cases z) fun ps z => by cases z)
        · exact .dT (eN _ _ (e5 _ _ hv2' fun ps z => by cases z) fun ps z => by cases z)
        · exact .bl _
        · exact .str _
      refine lam_use (oc := .pos .non) T5 trivial (fun E2 R H2 eN tl => ⟨rfl, _, rfl, x, rfl, .inl ⟨nl H2 eN, tl.1⟩⟩) (fun l H7 e7 T7 nl hl => ?_)
      refine ⟨_, rfl, few_ne hl (e7 _ _ (e5 _ _ hduJ nt_lst) nt_lst) ?_⟩
      refine ⟨_, rfl, iteF ?_⟩
      exact ⟨⟨_, _, rfl⟩, e5.trans e7, T7⟩
    obtain ⟨⟨x5, x7, rfl⟩, eJ, TJ⟩ := h
    exact k _ ((eI.trans (.of s14')).trans eJ) TJ
end
end K13

set_option Elab.async false
set_option linter.all false
set_option maxRecDepth 100000
set_option maxHeartbeats 4000000
namespace K13
open PySem L2 Lay Own SrtO LamX
local macro_rules | `(tactic| walk_at "ne") => `(tactic| first | assumption | (apply Ne.symm; assumption) | exact ne_of_none (by walk_at "look") (by assumption) | exact (ne_of_none (by walk_at "look") (by assumption)).symm)
local macro_rules | `(tactic| walk_at "look") => `(tactic| first | assumption | exact upd_same | (refine Eq.trans (upd_ne ?_) ?_; walk_at "ne"; walk_at "look"))
local macro_rules | `(tactic| walk_at "rds") => `(tactic| first | rfl | assumption | walk_at "look" | exact SqL.of (by walk_at "look") | exact SqT.of (by walk_at "look") | exact Or.inl (SqL.of (by walk_at "look")) | exact Or.inl (by assumption) | decide | omega | exact Nat.le_of_ble_eq_true rfl | exact Or.inr ⟨by decide, by decide⟩ | exact Or.inl ⟨by omega, by omega⟩ | exact ⟨by decide, by decide⟩)
local macro_rules | `(tactic| walk_at "rd1") => `(tactic| first | (apply Exists.intro) | (refine And.intro ?_ ?_; walk_at "rds") | (refine Or.inl ?_; apply Exists.intro; refine And.intro ?_ ?_; rfl))
local macro_rules | `(tactic| walk_at "rd") => `(tactic| repeat walk_at "rd1")
section
variable {P : Program} {w : World} {K : PySem.W.Frag} {mg : Str → Option Value} {base : Heap} {t : Tbs} {H H' : Hp}
theorem takesNo {X : Cx} : Takes X (fun _ _ _ _ => False) := fun _ _ ⟨_, _, _, _, _, _, _, _, _, _, _, _, _, _, _, _, z⟩ => z.elim
theorem nf_own : PySem.W.notFirst K (kc K) (.ref (kc K)) = true := by simp [PySem.W.notFirst]
theorem KindAt.same {a : Addr} {fs : List Ent} {m1 m2 : Int} (h : KindAt K H a fs m1 m2) (s : L2.Same H H') : KindAt K H' a fs m1 m2 := by
  obtain ⟨dx, tt, r, zs, h1, h2, h3, h4, h5⟩ := h
  exact ⟨dx, tt, r, zs, s _ _ h1, s _ _ h2, s _ _ h3, h4.same s, s _ _ h5⟩
theorem mv_zero (es : List Ent) : es.map (mv 0 0) = es := by
  have e : mv 0 0 = id := by
    funext x
    obtain ⟨a, b, c⟩ := x
    simp [mv]
  rw [e, List.map_id]
theorem min_one {a b : Int} {ns : List Int} (h : IsMin a ns) (g : IsMin b ns) : a = b := Int.le_antisymm (h.2 _ g.1) (g.2 _ h.1)
/-- what stands in order already stays -/
theorem kn_due {es fs : List Ent} {m1 m2 : Int} (d : Due es) (k : Kn es fs m1 m2) : fs = es ∧ m1 ≤ 3 ∧ m2 ≤ 3 := by
  obtain ⟨⟨lo, bo, hl, hb, pm, sd⟩, x, y⟩ := k
  obtain rfl := min_one hl d.x0
  obtain rfl := min_one hb d.y0
  rw [mv_zero] at pm
  obtain rfl := sd_uniq tot_ent pm sd d.sd
  refine ⟨rfl, ?_, ?_⟩
  · obtain ⟨e, he, q⟩ := List.mem_map.mp x.1
    rw [← q]; exact (d.le e he).1
  · obtain ⟨e, he, q⟩ := List.mem_map.mp y.1
    rw [← q]; exact (d.le e he).2
theorem due_ls {es : List Ent} {zs : List V} (d : Due es) (el : EL H zs es) : Ls K H zs (.ok es) := .good el d.ok fun fs m1 m2 k => (kn_due d k).2
theorem lam_told {Tl : List (Addr × Str)} {t : XK → TE} {σ : L2.St} {Q : VK} {es : List Ent} (tb : Tabs Tl H)
    (body : ∀ (E : XK) (R : VK) H2, ExtN H H2 → Told K H2 R E (.ok es) → t E σ H2 R)
    (k : ∀ l x fs m1 m2 H3, ExtN H H3 → Tabs Tl H3 → H3 l = some (.lst [.str "told", .ref x]) → KindAt K H3 x fs m1 m2 → Kn es fs m1 m2 → Q (.ref l) H3) : tLam Tl (TTh K) t σ H Q := by
  refine ⟨tb, fun H1 eN T1 H2 R s2 hR => body _ _ H2 (eN.trans (.of s2)) ⟨trivial, fun es' x fs m1 m2 H' e s3 nx kd kn => hR _ _ fun l H3 s4 nl hl => ?_⟩⟩
  cases e
  exact k l x fs m1 m2 H3 ((eN.trans (.of s2)).trans ((ExtN.of s3).trans (.of s4))) (T1.ext fun b o e => s4 _ _ (s3 _ _ (s2 _ _ e))) hl (kd.same s4) kn
def spRig (K : PySem.W.Frag) (t : Tbs) : Sp := fun vs H Q _ => ∃ p, vs = [.ref p] ∧ H p = some (PotO p) ∧ Tabs t.l H ∧ ∀ H', ExtN H H' → Tabs t.l H' → Q (.bl true) H'
theorem nt_pot {p : Addr} : ∀ ps, PotO p ≠ .tbl ps := fun ps z => by unfold PotO at z; cases z
theorem d_right13 (TT : TxT K mg base t) : Df P w K mg base 14 "_law_right" ["_law_pot_here"] (spRig K t) := by
  have T := TT.T
  have D_l_draw := d_draw (P := P) (w := w) (base := base) T
  have D_l_names := d_lnames (P := P) (w := w) (base := base) T
  have D_l_entries := d_lentries (P := P) (w := w) (base := base) T
  have D_l_kind := d_kind (P := P) (w := w) (base := base) T
  have D_l_spoilt_right := d_spoilt (P := P) (w := w) (base := base) TT
  have D_l_far_right := d_far13 (P := P) (w := w) (base := base) TT
  have D_l_few_right := d_few13 (P := P) (w := w) (base := base) TT
  obtain ⟨mc, cr, ⟨pst, cst⟩, _⟩ := T.cr
  obtain ⟨fdo, D_of, _, B_of⟩ := d_of (P := P) (w := w) (base := base) T
  refine TT.r.by sc_l_right (fun vs H Q E h => ?_) (fun TB f A outer s H vs Q E hr hgd h => ?_)
  · obtain ⟨p, rfl, _⟩ := h; rfl
  · obtain ⟨p, rfl, hp, tb, k⟩ := h
    have hmT : (t.P3, lq "_law_right") ∈ t.l := by simp [Tbs.l]
    have hu := TT.u3
    refine ⟨_, (pss_cons (ps_set (i := 1) sc_l_right.nd rfl (by first | exact Or.inl rfl | exact Or.inr rfl) (pe_own D_l_names (hr.mono (by first | decide | omega)) hgd (pa_cons (pv 0) (pa_cons (pe_op op_add pe_int (pe_own D_l_draw (hr.mono (by first | decide | omega)) hgd (pa_cons (pv 0) (pa_cons pe_int pa_nil)))) pa_nil))))
      (pss_cons (ps_set (i := 2) sc_l_right.nd rfl (by first | exact Or.inl rfl | exact Or.inr rfl) (pe_own D_l_entries (hr.mono (by first | decide | omega)) hgd (pa_cons (pv 0) (pa_cons (pv 1) pa_nil))))
      (pss_cons (ps_for PassesOwn.never rfl (pi_range1 (by rfl) T.n_range (pa_cons pe_int pa_nil)) (pg_name (i := 3) sc_l_right.nd rfl (by first | exact Or.inl rfl | exact Or.inr rfl)) (pss_one (ps_if (pt_not (pt_val (pe_own D_l_spoilt_right (hr.mono (by first | decide | omega)) hgd (pa_cons (pv 0) (pa_cons (pv 2) pa_nil))))) (pss_one (ps_ret pe_bl)) pss_nil)))
      (pss_cons (ps_if (PW.pt (pw_or (pt_not (pt_val (pe_own D_l_far_right (hr.mono (by first | decide | omega)) hgd (pa_cons (pv 0) (pa_cons (pv 2) pa_nil))))) (pw_or1 (pt_not (pt_val (pe_own D_l_few_right (hr.mono (by first | decide | omega)) hgd (pa_cons (pv 2) pa_nil))))))) (pss_one (ps_ret pe_bl)) pss_nil)
      (pss_cons (ps_set (i := 4) sc_l_right.nd rfl (by first | exact Or.inl rfl | exact Or.inr rfl) (pe_heard (k := 9) T hgd TB rfl hmT hu (hr.mono (by first | decide | omega)) (LamX.lamS_by (sc := defScope s_l_right) (by decide +kernel)) rfl (fun _ _ _ _ _ => rfl) (fun A2 outer2 s2 H2 E2 f2 c2 hr2 hg2 => (Rx.pe_ownX Rx.takesL D_l_kind (hr2.mono (by first | decide | omega)) hg2 (pa_cons (pv 2) pa_nil)))))
      (pss_one (ps_ret (pe_and (pe_cmpR op_eq (pe_ix ix_list (pv 4) pe_int (fun _ _ => rfl)) pe_str (nomark _)) (pe_and (pe_cmpR (op_eqD (un64 hr)) (pe_methP0 (pe_ix ix_list (pv 4) pe_int (fun _ _ => rfl)) T.cls T.m_entries (d_entries T).fp (hr.mono (by first | decide | omega)) hgd) (pv 2) (nomark _)) (pe_one (pe_cmpR (op_eqP T.f___eq__ T.i___eq__ (d_eq T).fp (hr.mono (by decide)) hgd) (Rx.pe_staX takesNo (pe_glob (v := .ref (He.ga K "Kind")) (by rfl) T.g_Kind rfl) cr cst (d_of (P := P) (w := w) (base := base) T).fp (hr.mono (by first | decide | omega)) hgd (pa_cons (pv 2) pa_nil)) (pe_ix ix_list (pv 4) pe_int (fun _ _ => rfl)) (nomark _)))))))))))), ?_⟩
    walk_at "rd"
    intro d H1 d0 d1 s1
    obtain ⟨n, rfl⟩ : ∃ n : Nat, d = n := ⟨d.toNat, by omega⟩
    have hp1 := s1 _ _ hp
    have en : (1 : Int) + (n : Int) = ((1 + n : Nat) : Int) := by omega
    refine ⟨1, (n : Int), rfl, rfl, ?_⟩
    refine ⟨p, 1 + n, (by show [V.ref p, V.int (1 + (n : Int))] = _; rw [en]), hp1, by omega, fun l ns H2 s2 nl hl ok len => ?_⟩
    have hp2 := s2 _ _ hp1
    refine ⟨_, rfl, _, rfl, p, l, ns, rfl, hp2, hl, ok, by omega, by omega, fun m zs es H3 s3 nm hm el due => ?_⟩
    have s13 := s1.trans (s2.trans s3)
    have hp3 := s3 _ _ hp2
    have tb3 : Tabs t.l H3 := tb.ext s13
    refine ⟨_, rfl, by decide, by decide, ?_⟩
    refine for_it walk_range (fun i σ H' => (∃ x3, σ = [some (.ref p), some (.ref l), some (.ref m), x3, none]) ∧ ExtN H3 H' ∧ Tabs t.l H') ⟨⟨_, rfl⟩, .of (Same.refl _), tb3⟩ (fun _ _ _ _ _ => trivial) (fun i x σ H4 H5 hi h y => ?_) (fun σ H4 h => ?_)
    · obtain ⟨⟨x3, rfl⟩, e4, T4⟩ := h
      obtain ⟨rfl, rfl⟩ := y
      refine ⟨_, rfl, _, rfl, p, m, zs, es, rfl, e4 _ _ hp3 nt_pot, e4 _ _ hm nt_lst, EL.ext el e4, due, T4, fun H6 e6 T6 => ?_⟩
      refine ⟨true, rfl, iteF ?_⟩
      exact ⟨⟨_, rfl⟩, e4.trans e6, T6⟩
    obtain ⟨⟨x3, rfl⟩, e4, T4⟩ := h
    have hm4 := e4 _ _ hm nt_lst
    have el4 := EL.ext el e4
    refine ⟨_, rfl, _, rfl, p, m, zs, es, rfl, e4 _ _ hp3 nt_pot, hm4, el4, due, T4, fun H5 e5 T5 => ?_⟩
    have e05 := (ExtN.of s13).trans (e4.trans e5)
    have hm5 := e5 _ _ hm4 nt_lst
    have el5 := EL.ext el4 e5
    refine ⟨true, rfl, iteF ?_⟩
    refine ⟨_, rfl, m, zs, es, rfl, hm5, el5, due, T5, fun H6 e6 T6 => ?_⟩
    refine ⟨true, rfl, iteF ?_⟩
    have hm6 := e6 _ _ hm5 nt_lst
    have el6 := EL.ext el5 e6
    have ln := el6.len
    have l0 := due.ok.l0
    have l1 := due.ok.l1
    refine lam_told (es := es) T6 (fun E2 R H2 eN td => ⟨_, rfl, m, zs, .ok es, rfl, eN _ _ hm6 nt_lst, by omega, by omega, due_ls due (EL.ext el6 eN), td⟩) (fun ll x fs m1 m2 H7 e7 T7 hl kd kn => ?_)
    obtain ⟨rfl, b1, b2⟩ := kn_due due kn
    have hm7 := e7 _ _ hm6 nt_lst
    have el7 := EL.ext el6 e7
    obtain ⟨dx, tt, r, ws, k1, k2, k3, k4, k5⟩ := id kd
    have sql : SqL K H7 ll [V.str "told", .ref x] := SqL.of hl
    have at0 : atI [V.str "told", V.ref x] 0 = some (.str "told") := rfl
    have at1 : atI [V.str "told", V.ref x] 1 = some (.ref x) := rfl
    walk_at "rd"
    intro q zq H8 s8 nq hq elq
    have hm8 := s8 _ _ hm7
    have el8 := el7.same s8
    have sh : SeqAt.shaped (.list (fs.map eD)) = true := eDs_shL fun f hf => (due.ok.ok f hf).2.2.2.2
    refine ⟨_, rfl, .list (fs.map eD), .list (fs.map eD), .lst (SqL.of hq) elq.dp, .lst (SqL.of hm8) el8.dp, sh, sh, ?_⟩
    rw [eqvL, decide_eq_true rfl]
    refine ⟨true, rfl, iteT ?_⟩
    refine ⟨rfl, _, rfl, .ref m, rfl, .inr ⟨m, zs, .ok fs, rfl, .inl hm8, by omega, due_ls due el8, trivial, fun es' y gs n1 n2 H9 e s9 ny ky kny => ?_⟩⟩
    cases e
    obtain ⟨rfl, c1, c2⟩ := kn_due due kny
    have hl9 := s9 _ _ (s8 _ _ hl)
    have kd9 := (kd.same s8).same s9
    have sql9 : SqL K H9 ll [V.str "told", .ref x] := SqL.of hl9
    obtain ⟨dy, ty, ry, wy, y1, y2, y3, y4, y5⟩ := id ky
    obtain ⟨dx', tt', r', ws', x1, x2', x3', x4', x5'⟩ := id kd9
    refine ⟨_, rfl, ll, _, 1, .ref x, rfl, rfl, sql9, at1, ?_⟩
    refine ⟨y, dy, _, .ref (kc K), rfl, y1, own_ty T x1, nf_own, y, gs, n1, n2, .ref x, rfl, ky, due.ok.ok, .inl ⟨x, _, _, _, rfl, kd9, due.ok.ok, _, rfl, ?_⟩⟩
    have eb : (if false = true then !decide (gs = gs) else decide (gs = gs)) = true := by simp
    rw [eb]
    have e79 : ExtN H7 H9 := .of (s8.trans s9)
    exact k _ (e05.trans (e6.trans (e7.trans e79))) (T7.ext (s8.trans s9))
end
end K13

set_option Elab.async false
set_option linter.all false
set_option maxRecDepth 100000
set_option maxHeartbeats 4000000
namespace K13
open PySem L2 Lay Own SrtO LamX
local macro_rules | `(tactic| walk_at "ne") => `(tactic| first | assumption | (apply Ne.symm; assumption) | exact ne_of_none (by walk_at "look") (by assumption) | exact (ne_of_none (by walk_at "look") (by assumption)).symm)
local macro_rules | `(tactic| walk_at "look") => `(tactic| first | assumption | exact upd_same | (refine Eq.trans (upd_ne ?_) ?_; walk_at "ne"; walk_at "look"))
local macro_rules | `(tactic| walk_at "rds") => `(tactic| first | rfl | assumption | walk_at "look" | exact SqL.of (by walk_at "look") | exact SqT.of (by walk_at "look") | exact Or.inl (SqL.of (by walk_at "look")) | exact Or.inl (by assumption) | decide | omega | exact Nat.le_of_ble_eq_true rfl | exact Or.inr ⟨by decide, by decide⟩ | exact Or.inl ⟨by omega, by omega⟩ | exact ⟨by decide, by decide⟩)
local macro_rules | `(tactic| walk_at "rd1") => `(tactic| first | (apply Exists.intro) | (refine And.intro ?_ ?_; walk_at "rds") | (refine Or.inl ?_; apply Exists.intro; refine And.intro ?_ ?_; rfl))
local macro_rules | `(tactic| walk_at "rd") => `(tactic| repeat walk_at "rd1")
section
variable {P : Program} {w : World} {K : PySem.W.Frag} {mg : Str → Option Value} {base : Heap} {t : Tbs}
/-- a comprehension whose elements are True, while tables grow -/
theorem lc_ext {J : L2.It} {n : Nat} {G : Hp → Prop} {Y : Nat → Hp → V → Hp → Prop} (wk : Walk J n G Y) {g : TG} {tt : TT} {te : TE} {vs : List Nat} {σ : L2.St} {H1 : Hp} {D : Addr} {Qd : Hp → Prop} (T1 : Tabs t.l H1) (nD : H1 D = none) (hn : n < 100000)
    (hG : ∀ H, ExtN H1 H → G H)
    (hs : ∀ i x H H' (Kn : V → Hp → Prop) (Z : Hp → Prop), i < n → ExtN H1 H → Tabs t.l H → Y i H x H' → (∀ H4, ExtN H H4 → Tabs t.l H4 → Kn (.bl true) H4) →
      g x (wipe σ vs) H' fun σ2 H2 => wipe σ2 vs = wipe σ vs ∧ tt σ2 H2 fun b H3 => if b = true then te σ2 H3 Kn else Z H3)
    (hd : ∀ H xs, ExtN H1 H → Tabs t.l H → H D = some (.lst xs) → xs.length = n → (∀ y ∈ xs, y = .bl true) → Qd H) :
    ∃ W : Nat → Nat → Hp → Prop, (∃ m, W 0 m (upd H1 D (.lst []))) ∧ ∀ i m H, W i m H →
      (J.stop i H ∧ Qd H) ∨ (J.go i H ∧ ∃ Nx : Hp → Prop, (∀ H', Nx H' → ∃ m', m' < m ∧ W (i + 1) m' H') ∧ ∀ x H', J.yld i H x H' → g x (wipe σ vs) H' fun σ2 H2 => wipe σ2 vs = wipe σ vs ∧ tt σ2 H2 fun b H3 =>
        if b = true then te σ2 H3 fun y H4 => ∃ acc, H4 D = some (.lst acc) ∧ acc.length < sizeLine ∧ Nx (upd H4 D (.lst (acc ++ [y]))) else Nx H3) := by
  refine lc_it wk (fun i H => ExtN H1 H ∧ Tabs t.l H ∧ ∃ xs, H D = some (.lst xs) ∧ xs.length = i ∧ ∀ y ∈ xs, y = .bl true) ?_ ?_ ?_ ?_
  · have s := Same.new (o := .lst []) nD
    exact ⟨.of s, T1.ext s, [], upd_same, rfl, fun y e => by cases e⟩
  · exact fun i H _ h => hG H h.1
  · intro i x H H' hi ⟨e, T, xs, hD, hl, hr⟩ y
    refine hs i x H H' _ _ hi e T y fun H4 e4 T4 => ⟨xs, e4 _ _ hD nt_lst, by rw [hl]; exact Nat.lt_trans (Nat.lt_trans hi hn) (by decide), ?_⟩
    have h4 := e4 _ _ hD nt_lst
    refine ⟨fun b o hb np => ?_, tabs_mut T4 h4, xs ++ [.bl true], upd_same, by simp [hl], fun y hy => ?_⟩
    · rw [upd_ne (ne_of_none hb nD)]
      exact e4 _ _ (e _ _ hb np) np
    · rcases List.mem_append.mp hy with hy | hy
      · exact hr y hy
      · exact List.mem_singleton.mp hy
  · intro H ⟨e, T, xs, hD, hl, hr⟩
    exact hd H xs e T hD hl hr
theorem SqL.ext {H H' : Hp} {a : Addr} {xs : List V} (h : SqL K H a xs) (e : ExtN H H') : SqL K H' a xs := by
  rcases h with (h | ⟨o, h⟩) | h
  · exact .inl (.inl (e _ _ h nt_lst))
  · exact .inl (.inr ⟨o, e _ _ h fun ps z => by cases z⟩)
  · exact .inr h
def spLaw (K : PySem.W.Frag) (t : Tbs) : Sp := fun vs H Q _ => ∃ (s : Addr) (ns : List Int), vs = [.ref s] ∧ SqL K H s (ns.map V.int) ∧ ns.length ≤ 63 ∧ Tabs t.l H ∧ ∀ H', ExtN H H' → Tabs t.l H' → Q (.bl true) H'
theorem g_law (TT : TxT K mg base t) {f : Addr} {fd : FuncData} (F : Fun K "law" "law" s_law f fd) : FnG P w K mg base CX0 15 f fd ["_law_script"] (spLaw K t) := by
  have T := TT.T
  have D_l_pot := d_pot (P := P) (w := w) (base := base) T
  have D_l_right := d_right13 (P := P) (w := w) (base := base) TT
  refine okG F sc_law (fun vs H Q E h => ?_) (fun cdv A outer s H vs Q E hr hgd h => ?_)
  · obtain ⟨p, _, rfl, _⟩ := h; rfl
  · obtain ⟨p, ns, rfl, hp, hn, tb, k⟩ := h
    refine ⟨_, (pss_one (ps_ret (pe_callB (cr_all rfl) (by rfl) T.n_all (by decide +kernel) (pa_cons (pe_lc (own := [("_law_k", 1)]) rfl sc_law.nd (pi_range1 (by rfl) T.n_range (pa_cons (pe_callB (call_max2 rfl) (by rfl) T.n_max (by decide +kernel) (pa_cons pe_int (pa_cons (pe_callB (call_min2 rfl) (by rfl) T.n_min (by decide +kernel) (pa_cons pe_int (pa_cons (pe_callB call_len_seq (by rfl) T.n_len PySem.boot_len (pa_cons (pv 0) pa_nil)) pa_nil))) pa_nil))) pa_nil)) (blkOk_by (own := [("_law_k", 1)]) (N := ["_law_script", "_law_k"]) (sc := defScope s_law) (by decide +kernel)) (fun _ _ _ _ _ => (pg_name (i := 1) sc_law.nd rfl (by first | exact Or.inl rfl | exact Or.inr rfl))) (fun _ _ _ _ _ => pts_nil) (fun _ _ _ _ _ => (pe_own D_l_right (hr.mono (by first | decide | omega)) hgd (pa_cons (pe_own D_l_pot (hr.mono (by first | decide | omega)) hgd (pa_cons (pv 0) (pa_cons (pv 1) pa_nil))) pa_nil)))) pa_nil)))), ?_⟩
    refine ⟨_, rfl, p, _, rfl, .inl hp, 6, _, rfl, 1, _, rfl, ?_⟩
    rw [List.length_map]
    obtain ⟨N, hN⟩ : ∃ N : Int, (if (if ((ns.length : Nat) : Int) < 6 then ((ns.length : Nat) : Int) else 6) > 1 then (if ((ns.length : Nat) : Int) < 6 then ((ns.length : Nat) : Int) else 6) else 1) = N := ⟨_, rfl⟩
    have nb : 0 ≤ N ∧ N ≤ 6 := by
      rw [← hN]
      split
      · split <;> omega
      · omega
    rw [hN]
    refine ⟨N, rfl, by omega, by omega, fun D nD => ?_⟩
    refine lc_ext (t := t) (n := N.toNat) walk_range tb nD (by omega) (fun _ _ => trivial) (fun i x H4 H5 Kn Z hi e4 T4 y q => ?_) (fun H4 xs e4 T4 hD hl hr => ?_)
    · obtain ⟨rfl, rfl⟩ := y
      refine ⟨rfl, _, rfl, _, rfl, p, ns, i, by show [V.ref p, V.int (0 + (i : Int))] = _; rw [Int.zero_add], SqL.ext hp e4, hn, by omega, fun u H2 nt s2 ht => ?_⟩
      exact ⟨u, rfl, ht, T4.ext s2, fun H3 e3 T3 => q _ ((ExtN.of s2).trans e3) T3⟩
    · have e : xs = (List.replicate xs.length true).map V.bl := by
        rw [List.map_replicate]
        exact List.eq_replicate_iff.mpr ⟨rfl, hr⟩
      refine ⟨D, List.replicate xs.length true, rfl, by rw [← e]; exact SqL.of hD, ?_⟩
      have z : (List.replicate xs.length true).all id = true := by
        rw [List.all_eq_true]
        intro x hx
        rw [(List.mem_replicate.mp hx).2]
        rfl
      rw [z]
      exact k _ e4 T4
end
end K13

set_option Elab.async false
set_option linter.all false
set_option maxRecDepth 100000
set_option maxHeartbeats 0
open PySem PySem.W PySem.Calls PyProof.Rows
theorem PySem.Challenge.cw_twoeach_k13_kinds_refused_holds : PySem.Challenge.rw_twoeach_k13_kinds_refused.Holds := by
  w_on; o_law
  refine HandSHeadRun.head_any (r := OpenLaw.row PySem.Challenge.rw_twoeach_k13_kinds_refused) (q := view (OpenLaw.row PySem.Challenge.rw_twoeach_k13_kinds_refused).prog [42]) (H := K13.hk) (ob := K13.ob) (M := 9600) (loose := K13.looseL) (d := HandSHeadRun.topDef (OpenLaw.row PySem.Challenge.rw_twoeach_k13_kinds_refused).prog 42) (kwd := []) K13.ob_eq
    (by kernel_rfl) (fun s => by kernel_rfl) K13.run (by kernel_rfl) (by kernel_rfl) (by kernel_rfl) (by rfl) (by first | assumption | decide +kernel) (by decide +kernel) ⟨rfl, rfl, rfl, rfl, rfl, by decide +kernel⟩ ?hw ?hc
  case hw => w_witness2
  case hc =>
    refine Ht.walk_TE (l := PySem.Challenge.rw_twoeach_k13_kinds_refused) (n := 63) (k := 15) (x := "_law_script") rfl (by decide) (by kernel_rfl) ⟨rfl, by decide, by decide⟩ ?F
    intro w mg fa h Y G hmg0
    obtain ⟨K, KX, c⟩ := Y
    have hmg : mg ("law" : PySem.Str) = some (.ref fa) := by
      have e : (HandSHeadRun.topDef (OpenLaw.row PySem.Challenge.rw_twoeach_k13_kinds_refused).prog 42).name = ("law" : PySem.Str) := by kernel_rfl
      rw [← e]
      exact hmg0
    obtain ⟨fd, F⟩ := Ha.says_d c.a 25
    have gl := He.glo_ok (x := "law") KX G (K13.fa_at (Ha.says_b c.a) 48)
    have ea : fa = He.ga K "law" := by
      have z := hmg.symm.trans gl
      cases z
      rfl
    have of_ct : ∀ (R : Addr × Addr → Prop), (∀ p ∈ K13.tfL, R (He.cT K p)) → ∀ p ∈ K13.cts K, R p := fun R hR p hp => by
      obtain ⟨q, hq, rfl⟩ := List.mem_map.mp hp
      exact hR q hq
    refine ⟨K, fd, K13.spLaw K (K13.tbs K), K13.cts K, KX, of_ct _ c.void, of_ct _ c.out, of_ct _ c.code, fun s u => ?_, fun H a ns hl hT hS => ⟨a, ns, rfl, hS, hl, ?_, fun _ _ _ => rfl⟩, fun base kb nb tb => ?_⟩
    · obtain ⟨oc, od, kV, doc, pm, an, cdv, ct, osl, rfl, lk, hcd⟩ := F.ex
      exact BindsTo.of_eq (by rfl)
    · exact K13.tabs_void fun p hp => hT _ (List.mem_map.mpr ⟨p, hp, rfl⟩)
    · subst ea
      exact K13.g_law (K13.txT KX G c.a tb) F

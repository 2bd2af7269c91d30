import PyProof.Rows.All
import Wide.All
import OpenK.AllK
import Wide.FinOn
import HandS.ForMost
import HandS.WideBits
import HandS.Flow
import HandS.Exc
import KE.KExcInit
import HandS.ExcInit
import HandS.ExcIs
import HandS.IsInst
import HandS.Star
import HandS.Walk
import HandS.StrMore
import HandS.HeadHook2
import PySem.Challenge.RW_twoeach_k10_numbers_names_and_errors
import PyProof.ReprHeadsEmpty
import HandS.Head0
import HandS.Head1
import HandS.Head2
import HandS.HeadEnd
import HandS.HeadHook1
set_option Elab.async false
set_option linter.all false
set_option maxRecDepth 100000
namespace Lay
open PySem L2 PySem.Spec PyProof.Rows
/-! ### a def's promise where it is known that no text of an object is being made (for repr) -/
structure FnG (P : Program) (w : World) (K : PySem.W.Frag) (mg : Str → Option Value) (base : Heap) (CX : CXT) (k : Nat) (f : Addr) (fd : FuncData)
    (ps : List Str) (sp : Sp) : Prop where
  len : ∀ vs H Q E, sp vs H Q E → vs.length = ps.length
  run : ∀ (A : Around) (outer : List Env) (s : Shared) (H : Hp) (args : Args) (us : List Value) (vs : List V) (Q : VK) (E : XK),
    Room k A → A.guards = some [] → Env0 P w K mg base A outer s H → BindsTo s fd args (ps.zip us) → Vals vs us → sp vs H Q E →
    codeAny (model P w) A (.call (.ref f) args) (CR CX outer P w H s Q E) s
section
variable {CX : CXT} {P : Program} {w : World} {K : PySem.W.Frag} {mg : Str → Option Value} {base : Heap} {k : Nat} {f : Addr} {fd : FuncData} {ps : List Str} {sp sp' : Sp}
theorem FnG.of (F : FnOk P w K mg base CX k f fd ps sp) : FnG P w K mg base CX k f fd ps sp :=
  ⟨F.len, fun A outer s H args us vs Q E hr _ => F.run A outer s H args us vs Q E hr⟩
theorem FnG.imp (F : FnG P w K mg base CX k f fd ps sp) (h : ∀ vs H Q E, sp' vs H Q E → sp vs H Q E) : FnG P w K mg base CX k f fd ps sp' :=
  ⟨fun vs H Q E z => F.len vs H Q E (h _ _ _ _ z), fun A outer s H args us vs Q E hr hg he hb hv z => F.run A outer s H args us vs Q E hr hg he hb hv (h _ _ _ _ z)⟩
theorem FnG.mono {j : Nat} (F : FnG P w K mg base CX j f fd ps sp) (h : j ≤ k) : FnG P w K mg base CX k f fd ps sp :=
  ⟨F.len, fun A outer s H args us vs Q E hr => F.run A outer s H args us vs Q E (hr.mono h)⟩
/-- a def of the text, by its body -/
theorem fnG_of {name qual : Str} {params : Arguments} {body : List Stmt} {scope : Scope} {dV kV doc pm cdv ct oc : Value} {an od : Option Addr}
    {osl : Array (Option Value)} {N : List Str} (lk : K.lookup f = some ⟨oc, od, .func (PySem.W.fnOf name qual params body scope dV kV doc pm an cdv ct), osl⟩)
    (hcd : PySem.W.codeIn K cdv qual = true) (S : FnScope N ps scope) (len : ∀ vs H Q E, sp vs H Q E → vs.length = ps.length)
    (hbody : ∀ (A : Around) (outer : List Env) (s : Shared) (H : Hp) (vs : List V) (Q : VK) (E : XK), Room k (A.deeper (envOfC qual scope s.heap.objs.size f cdv)) →
      A.guards = some [] → sp vs H Q E →
      ∃ t, PSs (cxOf CX P w K mg base N qual scope f cdv A outer s H E) body t ∧ t { nx := fun _ H' => Q .non H', rt := Q } (start N vs) H) :
    FnG P w K mg base CX (k + 1) f (PySem.W.fnOf name qual params body scope dV kV doc pm an cdv ct) ps sp := by
  refine ⟨len, fun A outer s H args us vs Q E hr hg e0 hb r hsp => ?_⟩
  have hl := len _ _ _ _ hsp
  have kx : K.In s.heap := e0.mod.kin.keeps fun b o e => (e0.bs b o e).1
  have nl : s.heap.NoLimit := e0.mod.nolimit.keeps fun b o e => (e0.bs b o e).1
  have kinds : ∀ y ∈ ps.zip us, scope.names.lookup y.1 = some .local ∨
      (scope.names.lookup y.1 = some .cell ∧ ((cellsFrom (s.heap.objs.size + 1) scope.names []).lookup y.1).isSome = true) := fun ⟨n, v⟩ hy => by
    rcases S.par n (List.of_mem_zip hy).1 with q | q
    · exact .inl q
    · exact .inr ⟨q, PySem.W.cellsFrom_some _ _ _ (.inl q)⟩
  refine codeAny_call_function hr.depth (kx _ _ lk) rfl S.co S.gen rfl (PySem.W.codeRec_of kx hcd) (hb _ _ _ _ ?_)
  refine wpAny_newFunctionEnv_cells S.kind kinds fun env he s1 x => ?_
  subst he
  refine ⟨nl.keeps x.toInCall.keep, codeAny_func ?_⟩
  obtain ⟨t, ht, hq⟩ := hbody A outer s H vs Q E (hr.deeper _) hg hsp
  have I : Inv (cxOf CX P w K mg base N qual scope f cdv A outer s H E) [] (start N vs) H s1 := inv_start S hr.hd e0 hl r x
  refine wpAny_mono (ht.run [] s1 (start N vs) H _ I hq) (fun fl s' hs => ?_) fun e s' hs => hs
  cases fl with
  | ret u =>
    obtain ⟨v, σ', H', J, rv, q⟩ := hs
    exact ⟨v, H', J.os, J.bare, J.base, J.hok, rv, q⟩
  | next =>
    obtain ⟨σ', H', J, q⟩ := hs
    exact ⟨V.non, H', J.os, J.bare, J.base, J.hok, rfl, q⟩
  | brk =>
    obtain ⟨_, _, _, q⟩ := hs
    exact False.elim q
  | cont =>
    obtain ⟨_, _, _, q⟩ := hs
    exact False.elim q
end
theorem okG {P : Program} {w : World} {K : PySem.W.Frag} {mg : Str → Option Value} {base : Heap} {x qual : Str} {st : Stmt} {f : Addr} {fd : FuncData} {N ps : List Str} {k : Nat} {sp : Sp}
    (F : Fun K x qual st f fd) (S : FnScope N ps (defScope st)) (len : ∀ vs H Q E, sp vs H Q E → vs.length = ps.length)
    (hbody : ∀ (cdv : Value) (A : Around) (outer : List Env) (s : Shared) (H : Hp) (vs : List V) (Q : VK) (E : XK),
      Room k (A.deeper (envOfC qual (defScope st) s.heap.objs.size f cdv)) → A.guards = some [] → sp vs H Q E →
      ∃ t, PSs (cxOf CX0 P w K mg base N qual (defScope st) f cdv A outer s H E).nox (defBody st) t ∧ t { nx := fun _ H' => Q .non H', rt := Q } (start N vs) H) :
    FnG P w K mg base CX0 (k + 1) f fd ps sp := by
  obtain ⟨oc, od, kV, doc, pm, an, cdv, ct, osl, rfl, lk, hcd⟩ := F.ex
  refine fnG_of lk hcd S len fun A outer s H vs Q E hr hg hsp => ?_
  obtain ⟨t, h, q⟩ := hbody cdv A outer s H vs Q E hr hg hsp
  exact ⟨t, h.nox, q⟩
section
variable {X : Cx} {k : Nat} {f : Addr} {fd : FuncData} {ps ks : List Str} {sp : Sp} {pins : List (Addr × Obj)} {σ : L2.St} {H : Hp} {s : Shared} {Q : VK} {us ws : List Value} {vs zs : List V}
theorem run_G {args : Args} {us' : List Value} {vs' : List V} (F : FnG X.prog X.w X.K X.mg X.base CX0 k f fd ps sp) (hr : Room k X.A) (hg : X.A.guards = some []) (I : Inv X pins σ H s)
    (hb : BindsTo s fd args (ps.zip us')) (r : Vals vs' us') (h : sp vs' H Q E0) : codeAny (model X.prog X.w) X.A (.call (.ref f) args)
      (fun r s' => match r with | .ok (.ret v) => EP X pins σ Q v s' | .ok _ => False | .error x => X.xe x s') s := by
  refine codeAny_mono (F.run X.A X.stack s H args us' vs' Q E0 hr hg I.env0 hb r h) fun r s' hq => ?_
  cases r with
  | error e => exact False.elim hq
  | ok fl =>
    cases fl with
    | ret u => exact I.after hq
    | next => exact False.elim hq
    | brk => exact False.elim hq
    | cont => exact False.elim hq
end

/-! ### the end of a law row -/
theorem law_callG {P : Program} {w : World} {K : PySem.W.Frag} {mg mb : Str → Option Value} {k : Nat} {fa a : Addr} {fd : FuncData} {x : Str} {sp : Sp} {s1 : Shared} {vs : List Value} {ns : List Int}
    (KX : K.In s1.heap) (hns : s1.heap.Ns mainGlobals mg) (hb : s1.heap.Ns builtinsNs mb) (hbb : ∀ x : Str, x ≠ "__name__" → mb x = bootBuiltins x)
    (hlim : s1.heap.NoLimit) (hg : s1.gens = #[]) (ha : s1.heap.get? a = some { cls := .type "list", data := .seq vs.toArray }) (hi : IntsAre vs ns)
    (hl : ns.length ≤ sizeLine) (hr : Room k callerA) (F : ∀ base : Heap, K.In base → base.Ns mainGlobals mg → FnG P w K mg base CX0 k fa fd [x] sp)
    (hbind : ∀ (s : Shared) (u : Value), BindsTo s fd ⟨[u], []⟩ [(x, u)])
    (hsp : ∀ H : Hp, Only H → SqL K H a (ns.map V.int) → sp [.ref a] H (fun v _ => v = .bl true) fun _ _ _ => False) :
    codeAny (model P w) callerA (.call (.ref fa) ⟨[.ref a], []⟩)
      (fun r s' => r = .ok (.ret (.bool true)) ∧ OldK s1.heap s'.heap ∧ s'.os = s1.os ∧ AllBare s'.gens) s1 := by
  have rv := vals_ints hi
  have lenV := hi.length
  have core : ∀ H : Hp, Only H → SqL K H a (ns.map V.int) → HOk P w H s1.heap → (∀ b, H b ≠ none → b = a) → (H a ≠ none → K.lookup a = none) →
      codeAny (model P w) callerA (.call (.ref fa) ⟨[.ref a], []⟩)
        (fun r s' => r = .ok (.ret (.bool true)) ∧ OldK s1.heap s'.heap ∧ s'.os = s1.os ∧ AllBare s'.gens) s1 := by
    intro H hO hS hok hA hK
    have bo : ∀ {b : Addr} {o : Obj}, s1.heap.get? b = some o → H b = none → (hidT s1.heap H).get? b = some o := fun e n => hidT_get e n
    have na : ∀ {b : Addr} {o : Obj} {es : Array DictEntry} {ep : Nat}, s1.heap.get? b = some o → o.data = .dict es ep → H b = none := by
      intro b o es ep e d
      cases q : H b with
      | none => rfl
      | some u =>
        have e' : b = a := hA b (by rw [q]; simp)
        subst e'
        rw [ha] at e; cases e
        have d' : Data.seq vs.toArray _ = Data.dict es ep := d
        cases d'
    have nsK : ∀ {b : Addr} {m : Str → Option Value}, s1.heap.Ns b m → (hidT s1.heap H).Ns b m := by
      intro b m ⟨o, es, ep, e, d, r⟩
      exact ⟨o, es, ep, bo e (na e d), d, r⟩
    have kb : K.In (hidT s1.heap H) := by
      intro b o e
      refine bo (KX b o e) ?_
      cases q : H b with
      | none => rfl
      | some u =>
        have e' : b = a := hA b (by rw [q]; simp)
        subst e'
        rw [hK (by rw [q]; simp)] at e; cases e
    have hM : Mod K mg (hidT s1.heap H) := by
      obtain ⟨mc, h1, h2⟩ := hlim
      exact ⟨kb, nsK hns, ⟨mb, nsK hb, hbb⟩, ⟨mc, nsK h1, h2⟩⟩
    have e0 : Env0 P w K mg (hidT s1.heap H) callerA [] s1 H :=
      ⟨rfl, hM, fun b o e => of_hidT e, Nat.le_of_eq (hidT_size _ _), trivial, fun b hb => absurd (show b ∈ ([] : List Addr) from hb) (by simp), hok, .of_eq hg⟩
    refine codeAny_mono ((F _ kb (nsK hns)).run callerA [] s1 H ⟨[.ref a], []⟩ [.ref a] [.ref a] _ _ hr rfl e0 (hbind s1 (.ref a)) (.cons rfl .nil) (hsp H hO hS)) fun r s' h => ?_
    cases r with
    | error e => exact h.elim
    | ok fl =>
      cases fl with
      | next => exact False.elim h
      | brk => exact False.elim h
      | cont => exact False.elim h
      | ret u =>
        obtain ⟨v, H', os, bare, un, hok', r', q⟩ := h
        have q' : v = .bl true := q
        subst q'
        obtain rfl : u = Value.bool true := r'
        refine ⟨rfl, OldK.of_keep fun b o e => ?_, os, bare⟩
        cases q : H b with
        | none => exact un.keep b o e q (fun z => nomatch (show b ∈ ([] : List Addr) from z)) (by simp)
        | some u =>
          rcases hO b with z | ⟨ob, xs, z⟩
          · rw [q] at z; cases z
          · obtain ⟨e1, _⟩ := hok b _ z
            obtain ⟨e2, _⟩ := hok' b _ (un.frzs b ob _ z)
            rw [e] at e1; cases e1
            exact e2
  cases hk : K.lookup a with
  | some o =>
    have e := KX a o hk
    rw [ha] at e
    cases e
    exact core (fun _ => none) (fun _ => .inl rfl) (.inr ⟨_, vs.toArray, _, hk, rfl, rfl, rfl, by rw [List.size_toArray, lenV]; exact hl, by simpa using rv⟩)
      (fun b u z => by cases (show (none : Option HO) = some u from z)) (fun b z => absurd rfl z) fun z => absurd rfl z
  | none =>
    refine core (fun b => if b = a then some (.frz { cls := .type "list", data := .seq vs.toArray } (.lst (ns.map V.int))) else none)
      (fun b => ?_) (.inl (.inr ⟨{ cls := .type "list", data := .seq vs.toArray }, if_pos rfl⟩)) (fun b u z => ?_) (fun b z => ?_) fun _ => hk
    · by_cases hb : b = a
      · exact .inr ⟨_, _, if_pos hb⟩
      · exact .inl (if_neg hb)
    · by_cases hb : b = a
      · cases (if_pos hb).symm.trans z
        subst hb
        exact ⟨ha, by rw [List.length_map]; exact hl, vs, _, rv, ha⟩
      · cases (if_neg hb).symm.trans z
    · by_cases hb : b = a
      · exact hb
      · exact absurd (if_neg hb) z
theorem walk_G {l : PySem.W.OpenLaw} {n k : Nat} {q : Program} {loose : List Str} {XP : (Str → Option Value) → Heap → Prop} {YP : World → Heap → Prop} {d : DefRec} {K : Params → PySem.W.Frag}
    {sp : PySem.W.Frag → Sp} {x : Str} (hn : l.most = some n) (hn2 : n ≤ sizeLine) (hdf : d.params.defaults = []) (hr : Room k callerA)
    (hY : ∀ (w : World) (h : Heap), YP w h → (K w.params).In h)
    (F : ∀ (w : World) (mg : Str → Option Value) (fa : Addr) (h : Heap), (K w.params).In h → h.Ns mainGlobals mg → mg d.name = some (.ref fa) →
      ∃ fd : FuncData, (∀ (s : Shared) (u : Value), BindsTo s fd ⟨[u], []⟩ [(x, u)]) ∧
        ∀ base : Heap, (K w.params).In base → base.Ns mainGlobals mg → FnG l.prog w (K w.params) mg base CX0 k fa fd [x] (sp (K w.params)))
    (hsp : ∀ (K : PySem.W.Frag) (H : Hp) (a : Addr) (ns : List Int), ns.length ≤ n → Only H → SqL K H a (ns.map V.int) → sp K [.ref a] H (fun v _ => v = .bl true) fun _ _ _ => False) :
    PySem.W.WalkO q loose XP YP l.row.toRowW d [] (fun f vs => PySem.call f vs) := by
  refine Att.attach_call hn hdf fun w s0 s1 mg mb fa o pm cd doc a vs ns G Y ho hd hcd hmg hobj hints hlen hg => ?_
  have KX := hY w _ Y
  obtain ⟨fd, hb, hF⟩ := F w mg fa _ KX G.T.g hmg
  exact law_callG KX G.T.g G.T.b G.T.builtins G.T.nolimit hg hobj hints (Nat.le_trans hlen hn2) hr hF hb fun H hO hS => hsp _ H a ns hlen hO hS
end Lay

set_option Elab.async false
set_option linter.all false
set_option maxRecDepth 100000
set_option maxHeartbeats 4000000
namespace Lay
open PySem L2

/-! ### the same objects, some of them told otherwise -/
structure Alike (H H1 : Hp) : Prop where
  none : ∀ b, H b = Option.none ↔ H1 b = Option.none
  tup : ∀ b xs, H b = some (.tup xs) ↔ H1 b = some (.tup xs)
  frz : ∀ b o u, H b = some (.frz o u) ↔ H1 b = some (.frz o u)
  tbl : ∀ b ps, H b = some (.tbl ps) ↔ H1 b = some (.tbl ps)
theorem Alike.refl {H : Hp} : Alike H H := ⟨fun _ => Iff.rfl, fun _ _ => Iff.rfl, fun _ _ _ => Iff.rfl, fun _ _ => Iff.rfl⟩
/-- no tuple, no locked object, no table, no own dict -/
def plainO : HO → Bool
  | .tup _ => false
  | .frz _ _ => false
  | .tbl _ => false
  | .own _ => false
  | _ => true
theorem Alike.upd {H : Hp} {q : Addr} {o o' : HO} (h : H q = some o) (p : plainO o = true) (p' : plainO o' = true) : Alike H (upd H q o') := by
  refine ⟨fun b => ?_, fun b xs => ?_, fun b o u => ?_, fun b ps => ?_⟩ <;> by_cases e : b = q
  · subst e; rw [upd_same, h]; constructor <;> intro z <;> cases z
  · rw [upd_ne e]
  · subst e; rw [upd_same, h]; constructor <;> intro z <;> cases z <;> first | cases p | cases p'
  · rw [upd_ne e]
  · subst e; rw [upd_same, h]; constructor <;> intro z <;> cases z <;> first | cases p | cases p'
  · rw [upd_ne e]
  · subst e; rw [upd_same, h]; constructor <;> intro z <;> cases z <;> first | cases p | cases p'
  · rw [upd_ne e]
theorem un_alike {fs : List Addr} {H H1 H2 H3 : Hp} {h h' : Heap} (a : Alike H H1) (b : Alike H2 H3) (u : Un fs [] H1 H2 h h') : Un fs [] H H3 h h' where
  keep := fun c o q n hc hx => u.keep c o q ((a.none c).mp n) hc hx
  slot := fun c o q n hc hx => u.slot c o q ((a.none c).mp n) hc hx
  free := fun c o q n hx => (b.none c).mp (u.free c o q ((a.none c).mp n) hx)
  there := fun c o q hx => u.there c o q hx
  tups := fun c xs q => (b.tup c xs).mp (u.tups c xs ((a.tup c xs).mp q))
  frzs := fun c o x q => (b.frz c o x).mp (u.frzs c o x ((a.frz c o x).mp q))
  tbls := fun c ps q => by
    obtain ⟨m, z⟩ := u.tbls c ps ((a.tbl c ps).mp q)
    exact ⟨m, (b.tbl c _).mp z⟩
theorem hok_retell {P : Program} {w : World} {H : Hp} {h : Heap} {q : Addr} {o o' : HO} (x : HOk P w H h) (e : H q = some o) (p : plainO o = true) (new : ObjOk P w (upd H q o') h q o') : HOk P w (upd H q o') h := fun b u eb => by
  by_cases hb : b = q
  · subst hb; rw [upd_same] at eb; cases eb; exact new
  · rw [upd_ne hb] at eb
    refine (x b u eb).stay (fun _ _ _ z => z) (fun c z => ?_) fun c xs z => ?_
    · rw [upd_ne (fun e' => by subst e'; rw [e] at z; cases z; cases p)]; exact z
    · rw [upd_ne (fun e' => by subst e'; rw [e] at z; cases z; cases p)]; exact z
theorem retell {P : Program} {w : World} {K : PySem.W.Frag} {mg : Str → Option Value} {base : Heap} {k : Nat} {f : Addr} {fd : FuncData} {ps : List Str} {sp sp' : Sp} (F : FnG P w K mg base CX0 k f fd ps sp) (hl : ∀ vs H Q E, sp' vs H Q E → vs.length = ps.length)
    (h : ∀ vs H Q E hp, sp' vs H Q E → HOk P w H hp → ∃ H1, Alike H H1 ∧ HOk P w H1 hp ∧ sp vs H1 (fun v H2 => ∀ hp', HOk P w H2 hp' → ∃ H3, Alike H2 H3 ∧ HOk P w H3 hp' ∧ Q v H3) E) : FnG P w K mg base CX0 k f fd ps sp' := by
  refine ⟨hl, fun A outer s H args us vs Q E hr hg e0 hb hv hs => ?_⟩
  obtain ⟨H1, al, ok1, hs1⟩ := h vs H Q E s.heap hs e0.hok
  have e1 : Env0 P w K mg base A outer s H1 := ⟨e0.frames, e0.mod, fun b o e => ⟨(e0.bs b o e).1, (al.none b).mp (e0.bs b o e).2⟩, e0.bsz, e0.funs, fun b hb => (al.none b).mp (e0.frf b hb), ok1, e0.bare⟩
  refine codeAny_mono (F.run A outer s H1 args us vs _ E hr hg e1 hb hv hs1) fun r s' q => ?_
  cases r with
  | error er => exact False.elim q
  | ok fl =>
    cases fl with
    | ret u =>
      obtain ⟨v, H2, os, ba, un, ok2, rv, q2⟩ := q
      obtain ⟨H3, al2, ok3, q3⟩ := q2 s'.heap ok2
      exact ⟨v, H3, os, ba, un_alike al al2 un, ok3, rv, q3⟩
    | next => exact False.elim q
    | brk => exact False.elim q
    | cont => exact False.elim q

/-! ### a def of the text, with all that a call of it needs -/
def Kw1 (fd : FuncData) (ps : List Str) : Prop := ∀ p v, ps = [p] → bindArgs fd ⟨[], [(p, v)]⟩ = pure [(p, v)]
def Src (K : PySem.W.Frag) (mg : Str → Option Value) (x : Str) (st : Stmt) (ps : List Str) : Prop := ∃ f fd, Fun K x x st f fd ∧ mg x = some (.ref f) ∧ Binds K fd ps [] ∧ Kw1 fd ps
def Df (P : Program) (w : World) (K : PySem.W.Frag) (mg : Str → Option Value) (base : Heap) (k : Nat) (x : Str) (ps : List Str) (sp : Sp) : Prop :=
  ∃ f fd, FnG P w K mg base CX0 k f fd ps sp ∧ mg x = some (.ref f) ∧ PySem.W.keepIn K (.ref f) = true ∧ Binds K fd ps [] ∧ Kw1 fd ps
section
variable {P : Program} {w : World} {K : PySem.W.Frag} {mg : Str → Option Value} {base : Heap} {x : Str} {st : Stmt} {N ps : List Str} {sp sp' : Sp} {k j : Nat}
theorem Src.ok (S : Src K mg x st ps) (h : ∀ f fd, Fun K x x st f fd → FnG P w K mg base CX0 k f fd ps sp) : Df P w K mg base k x ps sp := by
  obtain ⟨f, fd, F, g, b⟩ := S
  exact ⟨f, fd, h f fd F, g, F.kp, b⟩
/-- a def, by its body -/
theorem Src.by (S : Src K mg x st ps) (sc : FnScope N ps (defScope st)) (len : ∀ vs H Q E, sp vs H Q E → vs.length = ps.length)
    (hbody : ∀ (f : Addr) (cdv : Value) (A : Around) (outer : List Env) (s : Shared) (H : Hp) (vs : List V) (Q : VK) (E : XK),
      Room k (A.deeper (PyProof.Rows.envOfC x (defScope st) s.heap.objs.size f cdv)) → A.guards = some [] → sp vs H Q E →
      ∃ t, PSs (cxOf CX0 P w K mg base N x (defScope st) f cdv A outer s H E).nox (defBody st) t ∧ t { nx := fun _ H' => Q .non H', rt := Q } (start N vs) H) : Df P w K mg base (k + 1) x ps sp :=
  S.ok fun f fd F => okG F sc len (hbody f)
theorem Df.imp (D : Df P w K mg base k x ps sp) (h : ∀ vs H Q E, sp' vs H Q E → sp vs H Q E) : Df P w K mg base k x ps sp' := by
  obtain ⟨f, fd, F, r⟩ := D
  exact ⟨f, fd, F.imp h, r⟩
theorem Df.mono (D : Df P w K mg base j x ps sp) (h : j ≤ k) : Df P w K mg base k x ps sp := by
  obtain ⟨f, fd, F, r⟩ := D
  exact ⟨f, fd, F.mono h, r⟩
theorem Df.retell (D : Df P w K mg base k x ps sp) (hl : ∀ vs H Q E, sp' vs H Q E → vs.length = ps.length)
    (h : ∀ vs H Q E hp, sp' vs H Q E → HOk P w H hp → ∃ H1, Alike H H1 ∧ HOk P w H1 hp ∧ sp vs H1 (fun v H2 => ∀ hp', HOk P w H2 hp' → ∃ H3, Alike H2 H3 ∧ HOk P w H3 hp' ∧ Q v H3) E) : Df P w K mg base k x ps sp' := by
  obtain ⟨f, fd, F, r⟩ := D
  exact ⟨f, fd, Lay.retell F hl h, r⟩
end
/-- f(..), f(k = e), no exception leaves f -/
def tG (sp : Sp) (t : TA) : TE := fun σ H Q => t σ H fun vs H1 => sp vs H1 Q E0
section
variable {X : Cx} {x nm : Str} {ps : List Str} {sp : Sp} {k : Nat} {e : Expr} {es : List Expr} {t : TA} {te : TE} {p pos kpos : Pos}
theorem pe_own (D : Df X.prog X.w X.K X.mg X.base k x ps sp) (hr : Room k X.A) (hgd : X.A.guards = some []) (ht : PA X (e :: es) t) (hg : Gl X x := by rfl) (hdb : (x == ("__debug__" : Str)) = false := by decide) (hs : starEach (e :: es) X.env = (false, eval e X.env) :: starEach es X.env := by rfl) (hpl : (backTo pos (starEach es X.env)).any (·.1) = false := by rfl) :
    PE X (.Call (.Name x p) (e :: es) [] pos) (tG sp t) := by
  obtain ⟨f, fd, F, g, kp, b, _⟩ := D
  refine ⟨fun pins s σ H Q I h => ?_⟩
  refine wpAny_Call_Name_kw (ld_glob I hg g ?_ hdb)
  refine PySem.W.callWith_K (h₀ := X.base) I.ok.mod.kin kp (thn (ht.run pos pins s σ H _ I h) fun us s1 ⟨vs, H1, I1, r, q⟩ => ⟨I1.kIn, ?_⟩) hs hpl
  have hl : (us ++ []).length = ps.length := by rw [List.append_nil, ← r.length]; exact F.len _ _ _ _ q
  have b1 := b s1 us I1.kIn hl
  rw [List.append_nil] at b1
  exact wpAny_call (run_G F hr hgd I1 b1 r q)
theorem pe_own0 (D : Df X.prog X.w X.K X.mg X.base k x ps sp) (hr : Room k X.A) (hgd : X.A.guards = some []) (hg : Gl X x := by rfl) (hdb : (x == ("__debug__" : Str)) = false := by decide) : PE X (.Call (.Name x p) [] [] pos) (tG sp tNil) := by
  obtain ⟨f, fd, F, g, kp, b, _⟩ := D
  refine ⟨fun pins s σ H Q I h => ?_⟩
  refine wpAny_Call_Name_kw (ld_glob I hg g ?_ hdb)
  refine PySem.W.callWith_K0 I.kIn kp ?_
  have b1 := b s [] I.kIn (F.len _ _ _ _ h)
  exact wpAny_call (run_G F hr hgd I b1 .nil h)
theorem pe_own1K {q : Str} {kws : List Keyword} {tk : TA} (D : Df X.prog X.w X.K X.mg X.base k x [q] sp) (hr : Room k X.A) (hgd : X.A.guards = some []) (hkw : PK X kws tk) (hg : Gl X x := by rfl) (hdb : (x == ("__debug__" : Str)) = false := by decide)
    (hall : (backToKw pos (keywordEach kws X.env)).all (·.1.isSome) = true := by rfl) (hks : (backToKw pos (keywordEach kws X.env)).filterMap (·.1) = [q] := by rfl)
    (hpl : ((backTo pos (starEach [] X.env)).any (·.1) || (backToKw pos (keywordEach kws X.env)).any (·.1.isNone)) = false := by rfl) : PE X (.Call (.Name x p) [] kws pos) (tG sp tk) := by
  obtain ⟨f, fd, F, g, kp, _, b⟩ := D
  refine ⟨fun pins s σ H Q I h => ?_⟩
  refine wpAny_Call_Name_kw (ld_glob I hg g ?_ hdb)
  refine PySem.W.callWith_KW0 (h₀ := X.base) I.ok.mod.kin kp hall ?_ hpl
  refine thn (hkw.run pos pins s σ H _ I h) fun ws s2 ⟨zs, H2, I2, rz, q2⟩ => ⟨I2.kIn, ?_⟩
  rw [hks]
  have hl : zs.length = 1 := F.len _ _ _ _ q2
  cases rz with
  | nil => cases hl
  | @cons z u zr ur h1 rest =>
    cases rest with
    | cons _ _ => cases hl
    | nil =>
      have b1 : BindsTo s2 fd ⟨[], [(q, u)]⟩ ([q].zip [u]) := .of_eq (b q u rfl)
      exact wpAny_call (run_G (us' := [u]) (vs' := [z]) F hr hgd I2 b1 (.cons h1 .nil) q2)
end

/-! ### the pot: a list of two ints, whatever they are -/
def PotF (q : Addr) (h : Heap) : Prop := ∃ (a b : Int) (its : List Value) (n : Nat), 0 ≤ b ∧ b < 2147483648 ∧ Vals [.int a, .int b] its ∧ h.get? q = some { cls := .type "list", data := .seq its.toArray n }
def PotO (q : Addr) : HO := .ext (PotF q)
theorem pot_ok {P : Program} {w : World} {H : Hp} {h : Heap} {q : Addr} {a b : Int} (b0 : 0 ≤ b) (b1 : b < 2147483648) (x : ObjOk P w H h q (.lst [.int a, .int b])) (H' : Hp) : ObjOk P w H' h q (PotO q) := by
  obtain ⟨_, its, n, v, e⟩ := x
  exact ⟨⟨a, b, its, n, b0, b1, v, e⟩, ⟨_, e⟩, fun h1 h2 ⟨a, b, its, n, c0, c1, v, e⟩ k => ⟨a, b, its, n, c0, c1, v, k _ e⟩⟩
theorem pot_get {P : Program} {w : World} {H : Hp} {h : Heap} {q : Addr} (x : HOk P w H h) (e : H q = some (PotO q)) : ∃ a b : Int, 0 ≤ b ∧ b < 2147483648 ∧ ∀ H', ObjOk P w H' h q (.lst [.int a, .int b]) := by
  obtain ⟨⟨a, b, its, n, b0, b1, v, e⟩, _⟩ := x q _ e
  exact ⟨a, b, b0, b1, fun H' => ⟨by show 2 ≤ sizeLine; decide, its, n, v, e⟩⟩

/-- the raw promises: of the def that draws, of the def that makes a pot -/
def spDraw0 : Sp := fun vs H Q _ => ∃ (p : Addr) (m a b : Int), vs = [.ref p, .int m] ∧ H p = some (.lst [.int a, .int b]) ∧ 0 ≤ b ∧ b < 2147483648 ∧ 0 < m ∧ m < 2 ^ 200 ∧
  ∀ d a' b' H', 0 ≤ d → d < m → 0 ≤ b' → b' < 2147483648 → (∀ q o, q ≠ p → H q = some o → H' q = some o) → H' p = some (.lst [.int a', .int b']) → Q (.int d) H'
def spDraw : Sp := fun vs H Q _ => ∃ (p : Addr) (m : Int), vs = [.ref p, .int m] ∧ H p = some (PotO p) ∧ 0 < m ∧ m < 2 ^ 200 ∧
  ∀ d H', 0 ≤ d → d < m → Same H H' → Q (.int d) H'
theorem draw_up {P : Program} {w : World} {K : PySem.W.Frag} {mg : Str → Option Value} {base : Heap} {x : Str} {ps : List Str} {k : Nat} (D : Df P w K mg base k x ps spDraw0) (hl : ps.length = 2) : Df P w K mg base k x ps spDraw := by
  refine D.retell (fun vs H Q E h => ?_) fun vs H Q E hp h ok => ?_
  · obtain ⟨p, m, rfl, _⟩ := h; exact hl.symm
  · obtain ⟨p, m, rfl, e, m0, m1, k⟩ := h
    obtain ⟨a, b, b0, b1, o⟩ := pot_get ok e
    refine ⟨upd H p (.lst [.int a, .int b]), .upd e rfl rfl, hok_retell ok e rfl (o _), p, m, a, b, rfl, upd_same, b0, b1, m0, m1, fun d a' b' H' d0 d1 c0 c1 ks e' hp' ok' => ?_⟩
    refine ⟨upd H' p (PotO p), .upd e' rfl rfl, hok_retell ok' e' rfl (pot_ok c0 c1 (ok' _ _ e') _), k d _ d0 d1 fun q u hq => ?_⟩
    by_cases z : q = p
    · subst z; rw [e] at hq; cases hq; exact upd_same
    · rw [upd_ne z]; exact ks q u z (by rw [upd_ne z]; exact hq)
def spPot0 (K : PySem.W.Frag) : Sp := fun vs H Q _ => ∃ (s : Addr) (ns : List Int) (i : Nat), vs = [.ref s, .int i] ∧ SqL K H s (ns.map V.int) ∧ ns.length ≤ 63 ∧ i < 1000 ∧
  ∀ a b p H', 0 ≤ b → b < 2147483648 → H p = none → Same H H' → H' p = some (.lst [.int a, .int b]) → Q (.ref p) H'
def spPot (K : PySem.W.Frag) : Sp := fun vs H Q _ => ∃ (s : Addr) (ns : List Int) (i : Nat), vs = [.ref s, .int i] ∧ SqL K H s (ns.map V.int) ∧ ns.length ≤ 63 ∧ i < 1000 ∧
  ∀ p H', H p = none → Same H H' → H' p = some (PotO p) → Q (.ref p) H'
theorem pot_up {P : Program} {w : World} {K : PySem.W.Frag} {mg : Str → Option Value} {base : Heap} {x : Str} {ps : List Str} {k : Nat} (D : Df P w K mg base k x ps (spPot0 K)) (hl : ps.length = 2) : Df P w K mg base k x ps (spPot K) := by
  refine D.retell (fun vs H Q E h => ?_) fun vs H Q E hp h ok => ?_
  · obtain ⟨s, ns, i, rfl, _⟩ := h; exact hl.symm
  · obtain ⟨s, ns, i, rfl, hs, l, i1, k⟩ := h
    refine ⟨H, .refl, ok, s, ns, i, rfl, hs, l, i1, fun a b p H' b0 b1 np sm e hp' ok' => ?_⟩
    refine ⟨upd H' p (PotO p), .upd e rfl rfl, hok_retell ok' e rfl (pot_ok b0 b1 (ok' _ _ e) _), k p _ np (fun q u hq => ?_) upd_same⟩
    rw [upd_ne (ne_of_none hq np)]
    exact sm q u hq
theorem pe_con1 {X : Cx} {x : Str} {v : V} {pos : Pos} (h : ∃ u, X.mg x = some u ∧ RelV v u) (hg : Gl X x := by rfl) (hdb : (x == ("__debug__" : Str)) = false := by decide) : PE X (.Name x pos) (tC v) := by
  obtain ⟨u, e, r⟩ := h
  exact pe_glob hg e r (hd := hdb)
theorem Same.new {H : Hp} {p : Addr} {o : HO} (h : H p = none) : Same H (upd H p o) := fun a u e => by
  rw [upd_ne (ne_of_none e h)]; exact e
theorem Same.mut {H H' : Hp} {p : Addr} {o : HO} (e : Same H H') (h : H p = none) : Same H (upd H' p o) := fun a u ha => by
  rw [upd_ne (ne_of_none ha h)]; exact e a u ha
theorem same_t {K : PySem.W.Frag} {H H' : Hp} {a : Addr} {xs : List V} (e : Same H H') (h : SqT K H a xs) : SqT K H' a xs := by
  rcases h with (h | ⟨o, h⟩) | h
  · exact .inl (.inl (e _ _ h))
  · exact .inl (.inr ⟨o, e _ _ h⟩)
  · exact .inr h
theorem divs_ok {a m : Int} (m0 : 0 < m) (h : m < 2 ^ 200) : Builtin.divisionGoesByPylong a m = false := by
  have e : m.natAbs < 2 ^ 200 := by omega
  have e2 : m.natAbs.log2 < 200 := (Nat.log2_lt (by omega)).mpr e
  show (decide ((if m == 0 then 0 else m.natAbs.log2 / 30 + 1) > 300) && _) = false
  rw [if_neg (show ¬ (m == 0) = true by simpa using (show m ≠ 0 by omega))]
  rw [decide_eq_false (by omega)]
  rfl
end Lay

set_option Elab.async false
set_option linter.all false
set_option maxRecDepth 100000
set_option maxHeartbeats 4000000
namespace PySem
namespace Exv
open Builtin Builtin.ObjectAttr
section
variable {prog : Program} {w : World} {A : Around} {E : Value → Shared → Prop} {R : Result → Shared → Prop}
variable {h : Heap} {g : Array GenState} {d : Drawn} {t : Nat} {os : OsState}
variable {nm q : Str} {C N : Addr} {bs bm bmB : List Value} {hdct : Bool} {sn : List Str} {sub : List Value}
variable {ab : Bool} {col : Option Bool} {dd : Option Addr} {k0 k1 k2 k3 k5 : Option Value} {B newId initId : String}

theorem chk_kw {M : Model} (F : ExcBaseFacts B newId initId bmB) (hT : ∀ X : String, bm.contains (.type X) = bmB.contains (.type X))
    {rest : List Value} {kw : List (Str × Value)} {Q : Unit → Shared → Prop}
    (hC : h.get? C = some (excClassObj nm q C N bs bm hdct sn sub ab col dd k0 k1 k2 k3 k5 newId))
    (hq : Q () ⟨h, g, d, t, os⟩) : wpAny M A (checkBuiltinCall newId ⟨.ref C :: rest, kw⟩) Q E ⟨h, g, d, t, os⟩ := by
  have hcont : (Value.ref C :: bm).contains (.type B) = true := by rw [List.contains_cons, hT, F.hasB, Bool.or_true]
  have hstar := F.noStar
  simp only [checkBuiltinCall, F.newKind, F.newSplit, F.newRow]
  repeat (first
    | refine wpAny_loadPart_at hC ?_
    | (refine wpAny_isSubtype_exc hC ?_; rw [hcont])
    | refine wpAny_staticBase_exc hC ?_
    | refine wpAny_madeBy_exc hC ?_
    | simp only [bne_self_eq_false, Bool.false_eq_true, if_false]
    | wp_step)
  exact hq

theorem new_kw (F : ExcBaseFacts B newId initId bmB) (hT : ∀ X : String, bm.contains (.type X) = bmB.contains (.type X))
    {rest : List Value} {kw : List (Str × Value)}
    (hC : h.get? C = some (excClassObj nm q C N bs bm hdct sn sub ab col dd k0 k1 k2 k3 k5 newId))
    (hq : R (.ok (.ret (.ref (h.objs.size + 1))))
      ⟨(h.push (W.kdv_tup rest)).push (HandSPX.excO C h.objs.size), g, d, t, os⟩)
    (hrest : rest.length ≤ sizeLine) :
    codeAny (model prog w) A (.builtin newId ⟨.ref C :: rest, kw⟩) R ⟨h, g, d, t, os⟩ := by
  have z1 := F.ends
  have z2 : (Value.ref C :: bm).contains (.type B) = true := by rw [List.contains_cons, hT, F.hasB, Bool.or_true]
  have z3 : (Value.ref C :: bm).contains (.type "AttributeError") = false := by
    rw [List.contains_cons, hT, F.noAttr]
    rfl
  have z4 : (Value.ref C :: bm).contains (.type "NameError") = false := by
    rw [List.contains_cons, hT, F.noName]
    rfl
  refine codeAny_builtinAt F.entry ?_
  unfold Builtin.«BaseException.__new__»
  refine wpAt_bind ?_
  show wpAt _ _ _ (stack >>= _) _ _ _
  refine wpAt_bind (wpAt_stack fun p below => wpAt_of_wpAny ?_)
  wp_walk
  refine wpAt_of_wpAny ?_
  rw [F.owner]
  repeat (first
    | with_reducible refine wpAny_madeHere_exc F.canon hC ?_
    | with_reducible refine wpAny_loadPart_at hC ?_
    | (with_reducible refine wpAny_isSubtype_exc hC ?_; first | rw [z2] | rw [z3] | rw [z4])
    | wp_step)
  show R _ _
  rw [Heap.size_push]
  exact hq

theorem tcall_kw (F : ExcBaseFacts B newId initId bmB) (hT : ∀ X : String, bm.contains (.type X) = bmB.contains (.type X))
    {rest : List Value} {kw : List (Str × Value)} {fI : Addr} {Q : Fin → Shared → Prop}
    (hC : h.get? C = some (excClassObj nm q C N bs bm hdct sn sub ab col dd k0 k1 k2 k3 k5 newId))
    (hi : W.Looks (model prog w) h (typeLookup (.ref C) "__init__") (some (.ref fI)))
    (hb : ∀ self, W.Looks (model prog w) h (bindSpecial (.ref fI) self) (.ref fI, [self])) (hrest : rest.length ≤ sizeLine)
    (hq : codeAny (model prog w) A (.call (.ref fI) ⟨.ref (h.objs.size + 1) :: rest, kw⟩)
      (fun r s' => match r with
        | .ok (.ret v) => v = .none ∧ Q (.done (.ret (.ref (h.objs.size + 1)))) s'
        | .ok _ => False
        | .error e => E e s')
      ⟨(h.push (W.kdv_tup rest)).push (HandSPX.excO C h.objs.size), g, d, t, os⟩) :
    wpAny (model prog w) A (Builtin.«type.__call__» ⟨.ref C :: rest, kw⟩) Q E ⟨h, g, d, t, os⟩ := by
  repeat (first
    | with_reducible refine wpAny_loadPart_at hC ?_
    | with_reducible refine wpAny_madeBy_exc hC ?_
    | wp_step)
  refine codeAny_call_builtin_code (Code.quiet_builtin _ F.quiet) (chk_kw F hT hC ?_)
  refine new_kw F hT hC ?_ hrest
  show wpAny _ _ _ _ _ _
  have kk : ∀ b o, h.get? b = some o → ((h.push (W.kdv_tup rest)).push (HandSPX.excO C h.objs.size)).get? b = some o :=
    fun b o e => Heap.get?_push_of_some _ (Heap.get?_push_of_some _ e)
  have c1 := kk _ _ hC
  have c2 : ((h.push (W.kdv_tup rest)).push (HandSPX.excO C h.objs.size)).get? (h.objs.size + 1) = some (HandSPX.excO C h.objs.size) := by heap_get
  have c3 : (Value.ref C :: bm).contains (.ref C) = true := by simp
  have i1 := hi.keeps kk
  have b1 := (hb (.ref (h.objs.size + 1))).keeps kk
  unfold isInstance
  repeat (first
    | with_reducible refine wpAny_loadPart_at c2 ?_
    | (with_reducible refine wpAny_isSubtype_exc c1 ?_; rw [c3])
    | wp_step)
  show wpAny _ _ (typeLookup (.ref C) _) _ _ _
  refine i1.at ?_
  refine wpAny_holding (wpAny_bind (b1.at ?_))
  refine wpAny_bind (wpAny_call (codeAny_mono hq fun r s' z => ?_))
  rcases r with e | (v | _ | _ | _) <;> first | exact z | exact z.elim | skip
  obtain ⟨rfl, z⟩ := z
  first
    | exact wpAny_pure (wpAny_pure z)
    | (wp_walk; exact z)

theorem chkt_kw {M : Model} {rest : List Value} {kw : List (Str × Value)} {Q : Unit → Shared → Prop}
    (hC : h.get? C = some (excClassObj nm q C N bs bm hdct sn sub ab col dd k0 k1 k2 k3 k5 newId))
    (hq : Q () ⟨h, g, d, t, os⟩) : wpAny M A (checkBuiltinCall "type.__call__" ⟨.ref C :: rest, kw⟩) Q E ⟨h, g, d, t, os⟩ := by
  have f3 := tc_sub
  have hT : (⟨h, g, d, t, os⟩ : Shared).TypeIs (.ref C) "type" := ⟨_, hC, rfl⟩
  simp only [checkBuiltinCall, tc_kind, tc_split]
  repeat (any_goals (first
    | assumption
    | with_reducible refine wpAny_loadPart_at hC ?_
    | with_reducible refine wpAny_onRaise ?_
    | with_reducible refine wpAny_map ?_
    | wp_step))

theorem call_kw (F : ExcBaseFacts B newId initId bmB) (hT : ∀ X : String, bm.contains (.type X) = bmB.contains (.type X))
    {rest : List Value} {kw : List (Str × Value)} {fI : Addr}
    (hC : h.get? C = some (excClassObj nm q C N bs bm hdct sn sub ab col dd k0 k1 k2 k3 k5 newId))
    (hi : W.Looks (model prog w) h (typeLookup (.ref C) "__init__") (some (.ref fI)))
    (hb : ∀ self, W.Looks (model prog w) h (bindSpecial (.ref fI) self) (.ref fI, [self])) (hrest : rest.length ≤ sizeLine)
    (hq : codeAny (model prog w) (A.under (.builtin "type.__call__" ⟨.ref C :: rest, kw⟩))
      (.call (.ref fI) ⟨.ref (h.objs.size + 1) :: rest, kw⟩) (W.InitBack (h.objs.size + 1) R)
      ⟨(h.push (W.kdv_tup rest)).push (HandSPX.excO C h.objs.size), g, d, t, os⟩) :
    codeAny (model prog w) A (.call (.ref C) ⟨rest, kw⟩) R ⟨h, g, d, t, os⟩ := by
  have f1 := tc_lookup
  have f2 := tc_bind (.ref C)
  have hTy : (⟨h, g, d, t, os⟩ : Shared).TypeIs (.ref C) "type" := ⟨_, hC, rfl⟩
  refine codeAny_of_tree ?_
  show wpAny _ _ (callAny (.ref C) _) _ _ _
  repeat (any_goals (first
    | assumption
    | with_reducible refine wpAny_loadPart_at hC ?_
    | wp_step))
  refine ⟨rfl, ?_⟩
  refine codeAny_call_builtin_at (Code.quiet_builtin _ (by decide +kernel)) entry_typeCall (chkt_kw hC (tcall_kw F hT hC hi hb hrest ?_))
  refine codeAny_mono hq fun r s' z => ?_
  rcases r with e | (v | _ | _ | _) <;> exact z
end
end Exv
end PySem

set_option Elab.async false
set_option linter.all false
set_option maxRecDepth 100000
set_option maxHeartbeats 4000000
namespace PySem
namespace Exv
open Builtin Builtin.ObjectAttr
section
variable {prog : Program} {w : World} {A : Around} {E : Value → Shared → Prop} {R : Result → Shared → Prop}
variable {hp : Heap} {g : Array GenState} {d : Drawn} {t : Nat} {os : OsState} {B : String} {bmB : List Value}

/-- the ends that both stores share: what comes ahead of the store into the own dict -/
theorem osa_head {K : W.Frag} {name : Str} {tk : Tok} {v : Value} {x C : Addr} {ox : Obj} {od : Option Obj} {cd : ClassData} {bm : List Value}
    (SF : StoreFacts B bmB "object.__setattr__" "object") (X : K.In hp) (I : W.InstAt hp x ox C od) (hcd : W.clsIn K C = some cd)
    (hm : cd.mro = .ref C :: bm) (ht : W.excTail bmB bm = true) (ha : W.findIn K (.ref C) name = some none)
    (hq : wpAny (model prog w) A.in1 (storeInOwnDict (.ref x) (.ref C) (.str name tk) name v false)
      (fun fin s' => match fin with | .done f => R (.ok f) s' | .again c' => c'.quiet = true ∧ codeAny (model prog w) A c' R s')
      (fun e s' => R (.error e) s') ⟨hp, g, d, t, os⟩) :
    codeAny (model prog w) A (.call (.builtin "object.__setattr__") ⟨[.ref x, .str name tk, v], []⟩) R ⟨hp, g, d, t, os⟩ := by
  have ob : cd.mro.contains (.type "object") = true := by
    rw [hm, List.contains_cons, W.excTail_contains "object" _ ht, SF.hasOwner, Bool.or_true]
  have ne : cd.mro.isEmpty = false := by rw [hm]; rfl
  have sub : W.Looks (model prog w) hp (isInstance (.ref x) (.type "object")) true :=
    I.type.andThen (W.looks_mroIn X (by unfold W.mroIn; rw [hcd, Option.bind_some, if_neg (by rw [ne]; decide), ob]))
  refine codeAny_call_builtin SF.slot.plain SF.entry
    (@W.check_slot (model prog w) _ _ ⟨hp, g, d, t, os⟩ "object.__setattr__" "object" "__setattr__" (.ref x) [.str name tk, v] [] _
      SF.kind SF.split sub (SF.args (.ref x) (.str name tk) v) ?_)
  have l1 : W.Looks (model prog w) hp (mroOf (.ref C)) cd.mro := (W.looks_clsIn X hcd).andThen .now
  have l3 : W.Looks (model prog w) hp (storeTaker? none) none := .now
  rw [W.osa_eq, refuse_eq]
  refine wpAny_bind (wpAny_bind (I.type.at (wpAny_bind (l1.at ?_))))
  rw [hm, refuseLoop_ref, W.excTail_pass _ (SF.passes _) _ ht]
  refine wpAny_pure (wpAny_bind (I.type.at (wpAny_bind ((W.looks_findIn X ha).at (wpAny_bind (l3.at ?_))))))
  exact hq

/-- the first field of an exception -/
theorem osa_new {K : W.Frag} {name : Str} {tk : Tok} {v : Value} {x C : Addr} {fv : Array Value} {cd : ClassData} {bm : List Value}
    (SF : StoreFacts B bmB "object.__setattr__" "object") (X : K.In hp)
    (hx : hp.get? x = some { cls := .ref C, data := .fields fv }) (hcd : W.clsIn K C = some cd)
    (hm : cd.mro = .ref C :: bm) (ht : W.excTail bmB bm = true) (hh : cd.hasDict = true) (ha : W.findIn K (.ref C) name = some none)
    (hq : ∀ h' tk' dx, (∀ b o, b ≠ x → hp.get? b = some o → h'.get? b = some o) → hp.objs.size ≤ dx → dx ≠ x →
      h'.get? x = some { cls := .ref C, dict := some dx, data := .fields fv } →
      h'.Ns1 dx (fun y => if y = name then some v else none) → R (.ok (.ret .none)) ⟨h', g, d, tk', os⟩) :
    codeAny (model prog w) A (.call (.builtin "object.__setattr__") ⟨[.ref x, .str name tk, v], []⟩) R ⟨hp, g, d, t, os⟩ := by
  have I : W.InstAt hp x { cls := .ref C, data := .fields fv } C none := ⟨hx, rfl, rfl, trivial⟩
  have hxs : x ≠ hp.objs.size := Nat.ne_of_lt (Heap.lt_size hx)
  have hcls : W.Looks (model prog w) hp (classData C) cd := W.looks_clsIn X hcd
  refine osa_head SF X I hcd hm ht ha ?_
  obtain ⟨nm, bs, mro, ns, qn, hd, sn, sb, ab, col, del⟩ := cd
  dsimp only at hh
  subst hh
  unfold storeInOwnDict ownDictForStores
  repeat (first
    | with_reducible refine HandSPX.store_in_new ?_ ?_
    | with_reducible refine wpAny_loadPart_at hx ?_
    | with_reducible refine hcls.at ?_
    | wp_step)
  · exact ⟨_, #[], _, (Heap.get?_update_ne _ _ _ _ hxs.symm).trans (Heap.get?_push_at rfl rfl), rfl, fun e he => absurd he (by simp), fun _ => rfl⟩
  · intro h' tk' hn' hs
    have h1 : (hp.push { cls := .type "dict", data := .dict #[] }).get? x = some { cls := .ref C, data := .fields fv } := by
      exact Heap.get?_push_of_some _ hx
    refine hq h' tk' hp.objs.size (fun b o hb ho => ?_) (Nat.le_refl _) hxs.symm ?_ hn'
    · have e1 := hs.2 b (Nat.ne_of_lt (Heap.lt_size ho))
      exact e1.trans ((Heap.get?_update_ne _ _ _ _ hb).trans (Heap.get?_push_of_some _ ho))
    · have e1 := hs.2 x hxs
      exact e1.trans (Heap.get?_update_self _ h1 rfl)

/-- a further field -/
theorem osa_more {K : W.Frag} {name : Str} {tk : Tok} {v : Value} {x C dx : Addr} {fv : Array Value} {cd : ClassData} {bm : List Value}
    {m0 : Str → Option Value} {nl : List Str} (SF : StoreFacts B bmB "object.__setattr__" "object") (X : K.In hp)
    (hx : hp.get? x = some { cls := .ref C, dict := some dx, data := .fields fv }) (hns : hp.Ns1 dx m0) (hw : Within m0 nl) (hz : nl.length ≤ 1000)
    (hcd : W.clsIn K C = some cd) (hm : cd.mro = .ref C :: bm) (ht : W.excTail bmB bm = true) (hh : cd.hasDict = true) (ha : W.findIn K (.ref C) name = some none)
    (hq : ∀ h' tk', (∀ b o, b ≠ dx → hp.get? b = some o → h'.get? b = some o) →
      h'.Ns1 dx (fun y => if y = name then some v else m0 y) → R (.ok (.ret .none)) ⟨h', g, d, tk', os⟩) :
    codeAny (model prog w) A (.call (.builtin "object.__setattr__") ⟨[.ref x, .str name tk, v], []⟩) R ⟨hp, g, d, t, os⟩ := by
  obtain ⟨oD, esD, epD, hoD, hdD, _⟩ := hns.count hw
  have I : W.InstAt hp x { cls := .ref C, dict := some dx, data := .fields fv } C (some oD) := ⟨hx, rfl, rfl, hoD⟩
  have hcls : W.Looks (model prog w) hp (classData C) cd := W.looks_clsIn X hcd
  refine osa_head SF X I hcd hm ht ha ?_
  obtain ⟨nm, bs, mro, ns, qn, hd, sn, sb, ab, col, del⟩ := cd
  dsimp only at hh
  subst hh
  unfold storeInOwnDict ownDictForStores
  repeat (first
    | with_reducible refine OEX.store_in_old hns hw hz ?_
    | with_reducible refine wpAny_loadPart_at hx ?_
    | with_reducible refine hcls.at ?_
    | wp_step)
  intro h' tk' hn' hs
  exact hq h' tk' (fun b o hb ho => (hs.2 b hb).trans ho) hn'
end
end Exv
end PySem

namespace Exv
open PySem L2 Lay PyProof.Rows
/-- a built-in base class of errors, as the library tells it -/
structure Bs (B newId initId : String) (bmB : List Value) : Prop where
  fb : ExcBaseFacts B newId initId bmB
  sf : StoreFacts B bmB "object.__setattr__" "object"
theorem bsV : Bs "ValueError" "ValueError.__new__" "ValueError.__init__" [.type "ValueError", .type "Exception", .type "BaseException", .type "object"] := ⟨F.excBase_ValueError, F.store_ValueError⟩
theorem bsL : Bs "LookupError" "LookupError.__new__" "LookupError.__init__" [.type "LookupError", .type "Exception", .type "BaseException", .type "object"] := ⟨F.excBase_LookupError, F.store_LookupError⟩
theorem bsR : Bs "RuntimeError" "RuntimeError.__new__" "RuntimeError.__init__" [.type "RuntimeError", .type "Exception", .type "BaseException", .type "object"] := ⟨F.excBase_RuntimeError, F.store_RuntimeError⟩
theorem bsA : Bs "ArithmeticError" "ArithmeticError.__new__" "ArithmeticError.__init__" [.type "ArithmeticError", .type "Exception", .type "BaseException", .type "object"] := ⟨F.excBase_ArithmeticError, F.store_ArithmeticError⟩

/-- an error of the class at C: its own dict (none as yet), the tuple of what it was made of -/
def exo (e C : Addr) (d : Option Addr) (t : Addr) : HO :=
  .ext fun h => h.get? e = some ({ cls := .ref C, dict := d, data := .fields #[.ref t, .none, .none, .none, .bool false, .none] } : Obj)
theorem exo_ok {P : Program} {w : World} {H : Hp} {h : Heap} {e C t : Addr} {d : Option Addr}
    (he : h.get? e = some ({ cls := .ref C, dict := d, data := .fields #[.ref t, .none, .none, .none, .bool false, .none] } : Obj)) : ObjOk P w H h e (exo e C d t) :=
  ⟨he, ⟨_, he⟩, fun _ _ _ k => k _ ‹_›⟩
theorem exo_at {P : Program} {w : World} {H : Hp} {h : Heap} {e C t : Addr} {d : Option Addr} (ok : HOk P w H h) (x : H e = some (exo e C d t)) :
    h.get? e = some ({ cls := .ref C, dict := d, data := .fields #[.ref t, .none, .none, .none, .bool false, .none] } : Obj) := by
  have y : ObjOk P w H h e (.ext fun h => h.get? e = some ({ cls := .ref C, dict := d, data := .fields #[.ref t, .none, .none, .none, .bool false, .none] } : Obj)) := ok e _ x
  exact y.1
theorem exo_plain {e C t : Addr} {d : Option Addr} : plainO (exo e C d t) = true := rfl
theorem exd_plain {e : Addr} {fs : List (Str × V)} : plainO (exd e fs) = true := rfl
/-- what the written part says of an error's class -/
structure Cl (K : PySem.W.Frag) (C : Addr) (newId : String) (bmB : List Value) : Prop where
  cls : ∃ nm q N bs bm sn sub ab col dd k0 k1 k2 k3 k5, K.lookup C = some (excClassObj nm q C N bs bm true sn sub ab col dd k0 k1 k2 k3 k5 newId) ∧ PySem.W.excTail bmB bm = true
  sa : PySem.W.findIn K (.ref C) "__setattr__" = some (some (.builtin "object.__setattr__"))
  ga : PySem.W.findIn K (.ref C) "__getattribute__" = some (some (.builtin "BaseException.__getattribute__"))
  gg : PySem.W.findIn K (.ref C) "__getattr__" = some none
  exC : PySem.W.subIn K (.ref C) (.type "BaseException") = some true
  tyC : PySem.W.typeIn K (.ref C) = some (.type "type")
  kC : PySem.W.keepIn K (.ref C) = true
  hd : PySem.W.hasDictIn K C = true
  ha : PySem.W.findIn K (.ref C) "__class__" = some (some (.builtin "object.__class__"))
  hm : PySem.W.mroIn K C (.type "object") = some true
section
variable {X : Cx} {pins : List (Addr × Obj)} {σ : L2.St} {H : Hp} {s : Shared} {a C dx t1 : Addr} {f : Str} {y : V} {u : Value} {fs : List (Str × V)}
variable {Q : Unit → Shared → Prop} {E : Value → Shared → Prop} {A : Around} {B newId initId : String} {bmB : List Value}
theorem plain_ne_own {o : HO} (p : plainO o = true) {x : Addr} (e : H a = some o) {c : Addr} (z : H c = some (.own x)) : c ≠ a := fun q => by
  subst q; rw [e] at z; cases z; cases p
theorem plain_ne_tup {o : HO} (p : plainO o = true) {xs : List V} (e : H a = some o) {c : Addr} (z : H c = some (.tup xs)) : c ≠ a := fun q => by
  subst q; rw [e] at z; cases z; cases p
theorem plain_ne_frz {o : HO} (p : plainO o = true) {ob : Obj} {v : HO} (e : H a = some o) {c : Addr} (z : H c = some (.frz ob v)) : c ≠ a := fun q => by
  subst q; rw [e] at z; cases z; cases p
theorem plain_ne_tbl {o : HO} (p : plainO o = true) {ps : Array Value} (e : H a = some o) {c : Addr} (z : H c = some (.tbl ps)) : c ≠ a := fun q => by
  subst q; rw [e] at z; cases z; cases p
theorem Cl.cd (T : Cl X.K C newId bmB) : ∃ cd bm, PySem.W.clsIn X.K C = some cd ∧ cd.mro = .ref C :: bm ∧ PySem.W.excTail bmB bm = true ∧ cd.hasDict = true := by
  obtain ⟨nm, q, N, bs, bm, sn, sub, ab, col, dd, k0, k1, k2, k3, k5, hC, hbm⟩ := T.cls
  refine ⟨{ name := nm, bases := bs, mro := .ref C :: bm, ns := N, qualname := q, hasDict := true, slotNames := sn, subclasses := sub, abstract := ab, collection := col, hasDel := false }, bm, ?_, rfl, hbm, rfl⟩
  unfold PySem.W.clsIn
  rw [hC] <;> rfl
/-- self.f = y, the first one -/
theorem st_new (b : Bs B newId initId bmB) (T : Cl X.K C newId bmB) (I : Inv X pins σ H s) (e : H a = some (exo a C none t1)) (hno : PySem.W.findIn X.K (.ref C) f = some none) (ry : RelV y u)
    (h : ∀ dx s', H dx = none → dx ≠ a → Inv X pins σ (upd (upd H dx (exd dx [(f, y)])) a (exo a C (some dx) t1)) s' → Q () s') :
    wpAny (model X.prog X.w) A (setAttr (.ref a) f u) Q E s := by
  obtain ⟨cd, bm, hcl, hm, ht, hh⟩ := T.cd
  have ho := exo_at I.hok e
  obtain ⟨hp, g, d, t, os⟩ := s
  refine PySem.W.set_plain I.kIn (ox := { cls := .ref C, dict := none, data := .fields #[.ref t1, .none, .none, .none, .bool false, .none] }) (od := none) ⟨ho, rfl, rfl, trivial⟩ T.sa ?_
  refine PySem.Exv.osa_new b.sf I.kIn ho hcl hm ht hh hno (fun h' tk' dx k dn dne hx hn => ?_)
  have hnd : H dx = none := I.hok.fresh dn
  have nd : ∀ {b : Addr} {o : Obj}, hp.get? b = some o → b ≠ dx := fun {b o} q => Nat.ne_of_lt (Nat.lt_of_lt_of_le (Heap.lt_size q) dn)
  have na : ∀ {b : Addr}, H b = none → b ≠ a := fun {b} n z => by rw [z, e] at n; cases n
  have P1 := exo_plain (e := a) (C := C) (t := t1) (d := none)
  have U : Un X.fs [] H (upd (upd H dx (exd dx [(f, y)])) a (exo a C (some dx) t1)) hp h' := {
    keep := fun b o q n _ _ => k b o (na n) q
    slot := fun b o q n _ _ => ⟨o.slots, k b o (na n) q⟩
    free := fun b o q n _ => by rw [upd_ne (na n), upd_ne (nd q)]; exact n
    there := fun b o q _ => by
      by_cases hb : b = a
      · exact ⟨_, by rw [hb]; exact hx⟩
      · exact ⟨o, k b o hb q⟩
    tups := fun b xs q => by rw [upd_ne (plain_ne_tup P1 e q), upd_ne (ne_of_none q hnd)]; exact q
    frzs := fun b o v q => by rw [upd_ne (plain_ne_frz P1 e q), upd_ne (ne_of_none q hnd)]; exact q
    tbls := fun b ps q => ⟨#[], by rw [upd_ne (plain_ne_tbl P1 e q), upd_ne (ne_of_none q hnd), q]; simp⟩ }
  refine h dx _ hnd dne (I.un (t' := tk') U fun b o q => ?_)
  by_cases hb : b = a
  · subst hb; rw [upd_same] at q; cases q
    exact exo_ok hx
  · rw [upd_ne hb] at q
    by_cases hd : b = dx
    · subst hd; rw [upd_same] at q; cases q
      exact exd_ok hn (relO_put (fs := []) ry fun g => True.intro)
    · rw [upd_ne hd] at q
      refine (I.hok b o q).stay (fun c v hc z => k c v ?_ z) (fun c hc => ?_) fun c xs hc => ?_
      · rcases hc with hc | hc
        · rw [hc]; exact hb
        · exact plain_ne_own P1 e hc
      · rw [upd_ne (plain_ne_own P1 e hc), upd_ne (ne_of_none hc hnd)]; exact hc
      · rw [upd_ne (plain_ne_tup P1 e hc), upd_ne (ne_of_none hc hnd)]; exact hc
/-- self.f = y, a further one -/
theorem st_old (b : Bs B newId initId bmB) (T : Cl X.K C newId bmB) (I : Inv X pins σ H s) (e : H a = some (exo a C (some dx) t1)) (ed : H dx = some (exd dx fs)) (hl : fs.length ≤ 900)
    (hno : PySem.W.findIn X.K (.ref C) f = some none) (ry : RelV y u) (h : ∀ s', Inv X pins σ (upd H dx (exd dx ((f, y) :: fs))) s' → Q () s') :
    wpAny (model X.prog X.w) A (setAttr (.ref a) f u) Q E s := by
  obtain ⟨cd, bm, hcl, hm, ht, hh⟩ := T.cd
  have ho := exo_at I.hok e
  obtain ⟨mA, hns, rel⟩ := exd_at I.hok ed
  have hw := within_of rel
  obtain ⟨hp, g, d, t, os⟩ := s
  obtain ⟨oD, _, _, hoD, _, _⟩ := hns.count hw
  refine PySem.W.set_plain I.kIn (ox := { cls := .ref C, dict := some dx, data := .fields #[.ref t1, .none, .none, .none, .bool false, .none] }) (od := some oD) ⟨ho, rfl, rfl, hoD⟩ T.sa ?_
  refine PySem.Exv.osa_more b.sf I.kIn ho hns hw (by rw [List.length_map]; omega) hcl hm ht hh hno (fun h' tk' k hn => ?_)
  have hd : ∃ o, h'.get? dx = some o := by
    obtain ⟨o, _, _, e', _⟩ := hn
    exact ⟨o, e'⟩
  exact h _ (I.write (t' := tk') (x := dx) (e := dx) (o := exd dx ((f, y) :: fs)) (by rw [ed]; exact True.intro) (.inl rfl) k hd (exd_ok hn (relO_put ry rel)))
/-- e.f, e an error -/
theorem at_get {expr : Bool} {Q : Value → Shared → Prop} (T : Cl X.K C newId bmB) (I : Inv X pins σ H s) (e : H a = some (exo a C (some dx) t1)) (ed : H dx = some (exd dx fs)) (hf : fs.lookup f = some y)
    (hno : PySem.W.findIn X.K (.ref C) f = some none) (h : ∀ u s', RelV y u → Inv X pins σ H s' → Q u s') : wpAny (model X.prog X.w) A (getAttr (.ref a) f expr) Q E s := by
  have ho := exo_at I.hok e
  obtain ⟨mA, hns, rel⟩ := exd_at I.hok ed
  obtain ⟨od, hod, hl⟩ := lookIn_ns hns
  obtain ⟨u, hu, ru⟩ := RelO.some_of (v := y) (o := mA f) (by rw [← hf]; exact rel f)
  have J : PySem.W.InstAt s.heap a { cls := .ref C, dict := some dx, data := .fields #[.ref t1, .none, .none, .none, .bool false, .none] } C (some od) := ⟨ho, rfl, rfl, hod⟩
  exact HandSPX.exc_get I.kIn J T.ga T.gg T.exC (PySem.W.findObj_own T.hd hno rfl (by rw [hl, hu])) (handed_of ru) (h u _ ru (I.tok _))
end
end Exv

set_option Elab.async false
set_option linter.all false
set_option maxRecDepth 100000
set_option maxHeartbeats 4000000
namespace Exv
open PySem L2 Lay PyProof.Rows
/-- at a stands an error of the class at C with these fields, made of args -/
def IsExc (H : Hp) (a C : Addr) (fs : List (Str × V)) (args : List V) : Prop :=
  ∃ t, H t = some (.tup args) ∧ ((fs = [] ∧ H a = some (exo a C none t)) ∨ ∃ d, H a = some (exo a C (some d) t) ∧ H d = some (exd d fs))
theorem IsExc.same {H H' : Hp} {a C : Addr} {fs : List (Str × V)} {args : List V} (e : L2.Same H H') (h : IsExc H a C fs args) : IsExc H' a C fs args := by
  obtain ⟨t, ht, h⟩ := h
  refine ⟨t, e _ _ ht, ?_⟩
  rcases h with ⟨z, h⟩ | ⟨d, h, hd⟩
  · exact .inl ⟨z, e _ _ h⟩
  · exact .inr ⟨d, e _ _ h, e _ _ hd⟩
/-- what an error's __init__ promises: the fields mk of what it was handed -/
def spI (C : Addr) (n : Nat) (mk : List V → List (Str × V)) : Sp := fun vs H Q _ => ∃ (a t : Addr) (ws : List V), vs = .ref a :: ws ∧ ws.length = n ∧ H a = some (exo a C none t) ∧
  ∀ H', (∀ b o, b ≠ a → H b = some o → H' b = some o) →
    ((mk ws = [] ∧ H' a = some (exo a C none t)) ∨ ∃ d, H' a = some (exo a C (some d) t) ∧ H' d = some (exd d (mk ws))) → Q .non H'
section
variable {X : Cx} {pins : List (Addr × Obj)} {σ : L2.St} {H : Hp} {s : Shared} {C fI : Addr} {B newId initId : String} {bmB : List Value}
variable {k n : Nat} {fd : FuncData} {ps ks : List Str} {mk : List V → List (Str × V)} {g : List Value → List Value → List Value} {gV : List V → List V → List V}
theorem run_mk {Q : VK} {us ws : List Value} {vs zs : List V} {fs : List (Str × V)} (b : Bs B newId initId bmB) (T : Cl X.K C newId bmB)
    (hi : PySem.W.findIn X.K (.ref C) "__init__" = some (some (.ref fI))) (tI : PySem.W.typeIn X.K (.ref fI) = some (.type "function"))
    (F : FnOk X.prog X.w X.K X.mg X.base CX0 k fI fd ps (spI C n mk)) (hr : Room (k + 1) X.A) (hb : KBinds X.K fd ps ks g gV)
    (I : Inv X pins σ H s) (r : Vals vs us) (rz : Vals zs ws) (hz : us.length ≤ sizeLine)
    (hg : ∀ a, ∃ yl, gV (.ref a :: vs) zs = .ref a :: yl ∧ yl.length = n ∧ mk yl = fs)
    (h : ∀ a H2, H a = none → L2.Same H H2 → IsExc H2 a C fs vs → Q (.ref a) H2) :
    wpAny (model X.prog X.w) X.A (call (.ref C) us (ks.zip ws)) (EP X pins σ Q) X.xe s := by
  obtain ⟨nm, q, N, bs, bm, sn, sub, ab, col, dd, k0, k1, k2, k3, k5, hC, hbm⟩ := T.cls
  obtain ⟨hp, gn, dr, tk, os⟩ := s
  have n0 : H hp.objs.size = none := I.hok.fresh (Nat.le_refl _)
  have n1 : H (hp.objs.size + 1) = none := I.hok.fresh (Nat.le_succ _)
  have sz : (hp.push (PySem.W.kdv_tup us)).objs.size = hp.objs.size + 1 := Heap.size_push _ _
  have I1 : Inv X pins σ (upd H hp.objs.size (.tup vs)) ⟨hp.push (PySem.W.kdv_tup us), gn, dr, tk, os⟩ :=
    I.laid (t' := tk) (a := hp.objs.size) (o := .tup vs) (h' := hp.push (PySem.W.kdv_tup us)) (fun b o e => Heap.get?_push_of_some _ e) (Nat.le_refl _)
      ⟨by rw [r.length]; exact hz, us, r, ⟨_, Heap.get?_push_size _ rfl, rfl, _, rfl⟩⟩
  have hget : ((hp.push (PySem.W.kdv_tup us)).push (PySem.HandSPX.excO C hp.objs.size)).get? (hp.objs.size + 1) = some (PySem.HandSPX.excO C hp.objs.size) := by heap_get
  have I2 : Inv X pins σ (upd (upd H hp.objs.size (.tup vs)) (hp.objs.size + 1) (exo (hp.objs.size + 1) C none hp.objs.size))
      ⟨(hp.push (PySem.W.kdv_tup us)).push (PySem.HandSPX.excO C hp.objs.size), gn, dr, tk, os⟩ :=
    I1.laid (t' := tk) (a := hp.objs.size + 1) (o := exo (hp.objs.size + 1) C none hp.objs.size)
      (h' := (hp.push (PySem.W.kdv_tup us)).push (PySem.HandSPX.excO C hp.objs.size)) (fun b o e => Heap.get?_push_of_some _ e)
      (by show (hp.push (PySem.W.kdv_tup us)).objs.size ≤ _; rw [sz]; exact Nat.le_refl _) (exo_ok hget)
  obtain ⟨yl, eg, ly, em⟩ := hg (hp.objs.size + 1)
  have ne : hp.objs.size ≠ hp.objs.size + 1 := (Nat.succ_ne_self _).symm
  have hsp : spI C n mk (gV (.ref (hp.objs.size + 1) :: vs) zs) (upd (upd H hp.objs.size (.tup vs)) (hp.objs.size + 1) (exo (hp.objs.size + 1) C none hp.objs.size))
      (fun v H2 => v = .non ∧ Q (.ref (hp.objs.size + 1)) H2) E0 := by
    refine ⟨hp.objs.size + 1, hp.objs.size, yl, eg, ly, upd_same, fun H' kp hh => ⟨rfl, h _ _ n1 (fun b o e => ?_) ⟨hp.objs.size, ?_, ?_⟩⟩⟩
    · refine kp b o (ne_of_none e n1) ?_
      rw [upd_ne (ne_of_none e n1), upd_ne (ne_of_none e n0)]; exact e
    · refine kp _ _ ne ?_
      rw [upd_ne ne, upd_same]
    · rw [em] at hh; exact hh
  have r2 : Vals (gV (.ref (hp.objs.size + 1) :: vs) zs) (g (.ref (hp.objs.size + 1) :: us) ws) := hb.rel (.cons rfl r) rz
  have hl : (g (.ref (hp.objs.size + 1) :: us) ws).length = ps.length := by rw [← r2.length]; exact F.len _ _ _ _ hsp
  refine wpAny_call (PySem.Exv.call_kw b.fb (fun Y => PySem.W.excTail_contains Y bm hbm) (I.kIn _ _ hC) (PySem.W.looks_findIn I.kIn hi) (fun self => PySem.W.bind_fn I.kIn self tI) hz
    (codeAny_mono (F.run _ X.stack _ _ ⟨.ref (hp.objs.size + 1) :: us, ks.zip ws⟩ _ _ _ E0 (hr.make C us (ks.zip ws)) (I2.env0.make C us (ks.zip ws)) (hb.to _ _ _ I2.kIn hl) r2 hsp) fun rr s' hq => ?_))
  cases rr with
  | error er => exact False.elim hq
  | ok fl =>
    cases fl with
    | ret u =>
      obtain ⟨v, H', I3, rv, ev, q3⟩ := I2.after hq
      subst ev
      exact ⟨rv, ⟨V.ref (hp.objs.size + 1), H', I3, rfl, q3⟩⟩
    | next => exact False.elim hq
    | brk => exact False.elim hq
    | cont => exact False.elim hq
end

/-- a class of errors of the text: all that a call of it needs; n fields, which mk tells of what was handed to __init__ -/
structure Ec (P : Program) (w : World) (K : PySem.W.Frag) (mg : Str → Option Value) (base : Heap) (x : Str) (C : Addr) (newId : String) (bmB : List Value) (ps : List Str) (n : Nat) (mk : List V → List (Str × V)) : Prop where
  g : mg x = some (.ref C)
  cl : Cl K C newId bmB
  ini : ∃ fI fd, PySem.W.findIn K (.ref C) "__init__" = some (some (.ref fI)) ∧ PySem.W.typeIn K (.ref fI) = some (.type "function") ∧ FnOk P w K mg base CX0 1 fI fd ps (spI C n mk) ∧
    (∀ us : List Value, us.length = ps.length → bindArgs fd ⟨us, []⟩ = pure (ps.zip us)) ∧
    (∀ (s0 : Value) (ws : List Value), ws.length = n → ∀ ks : List Str, ks ++ [("self" : Str)] = ps.reverse → bindArgs fd ⟨[s0], ks.zip ws⟩ = pure (ps.zip (s0 :: ws.reverse)))
theorem kb_pos {K : PySem.W.Frag} {fd : FuncData} {ps : List Str} (h : ∀ us : List Value, us.length = ps.length → bindArgs fd ⟨us, []⟩ = pure (ps.zip us)) : KBinds K fd ps [] (fun us _ => us) (fun vs _ => vs) :=
  ⟨fun s us ws _ hl => .of_eq (h us hl), fun r _ => r⟩

section
variable {X : Cx} {x : Str} {C : Addr} {B newId initId : String} {bmB : List Value} {ps ks : List Str} {n : Nat} {mk : List V → List (Str × V)} {e : Expr} {es : List Expr} {t : TA} {p pos : Pos}
/-- C(..) -/
def tMkE (C : Addr) (n : Nat) (mk : List V → List (Str × V)) (t : TA) : TE := fun σ H Q => t σ H fun vs H1 => vs.length = n ∧ ∀ a H2, H1 a = none → L2.Same H1 H2 → IsExc H2 a C (mk vs) vs → Q (.ref a) H2
theorem pe_mk (b : Bs B newId initId bmB) (D : Ec X.prog X.w X.K X.mg X.base x C newId bmB ps n mk) (hn : n ≤ 1000) (hr : Room 2 X.A) (ha : PA X (e :: es) t) (hg : Gl X x := by rfl)
    (hdb : (x == ("__debug__" : Str)) = false := by decide) (he : starEach (e :: es) X.env = (false, eval e X.env) :: starEach es X.env := by rfl) (hpl : (backTo pos (starEach es X.env)).any (·.1) = false := by rfl) :
    PE X (.Call (.Name x p) (e :: es) [] pos) (tMkE C n mk t) := by
  obtain ⟨fI, fd, hi, tI, F, hb, _⟩ := D.ini
  refine ⟨fun pins s σ H Q I h => ?_⟩
  refine wpAny_Call_Name_kw (ld_glob I hg D.g ?_ hdb)
  refine PySem.W.callWith_K (h₀ := X.base) I.ok.mod.kin D.cl.kC (thn (ha.run pos pins s σ H _ I h) fun us s1 ⟨vs, H1, I1, r, l, q⟩ => ⟨I1.kIn, ?_⟩) he hpl
  refine run_mk (ws := []) (zs := []) b D.cl hi tI F hr (kb_pos hb) I1 r .nil ?_ (fun a => ⟨vs, rfl, l, rfl⟩) q
  rw [List.nil_append, ← r.length, l]
  exact Nat.le_trans hn (by decide)
theorem pe_mk0 (b : Bs B newId initId bmB) (D : Ec X.prog X.w X.K X.mg X.base x C newId bmB ps 0 mk) (hr : Room 2 X.A) (hg : Gl X x := by rfl)
    (hdb : (x == ("__debug__" : Str)) = false := by decide) : PE X (.Call (.Name x p) [] [] pos) (tMkE C 0 mk tNil) := by
  obtain ⟨fI, fd, hi, tI, F, hb, _⟩ := D.ini
  refine ⟨fun pins s σ H Q I h => ?_⟩
  refine wpAny_Call_Name_kw (ld_glob I hg D.g ?_ hdb)
  refine PySem.W.callWith_K0 I.kIn D.cl.kC ?_
  exact run_mk (us := []) (ws := []) (vs := []) (zs := []) b D.cl hi tI F hr (kb_pos hb) I .nil .nil (Nat.zero_le _) (fun a => ⟨[], rfl, rfl, rfl⟩) h.2
/-- C(k = v, ..): all by keywords, the last parameter first -/
def tMkK (C : Addr) (n : Nat) (mk : List V → List (Str × V)) (tk : TA) : TE := fun σ H Q => tk σ H fun zs H1 => zs.length = n ∧ ∀ a H2, H1 a = none → L2.Same H1 H2 → IsExc H2 a C (mk zs.reverse) [] → Q (.ref a) H2
theorem paired_rev {xs : List V} {us : List Value} (r : Vals xs us) : Vals xs.reverse us.reverse := by
  induction r with
  | nil => exact .nil
  | cons h t ih => rw [List.reverse_cons, List.reverse_cons]; exact ih.append (.cons h .nil)
theorem pe_mkK {kws : List Keyword} {tk : TA} (b : Bs B newId initId bmB) (D : Ec X.prog X.w X.K X.mg X.base x C newId bmB ps n mk) (hks2 : ks ++ [("self" : Str)] = ps.reverse) (hr : Room 2 X.A) (hkw : PK X kws tk) (hg : Gl X x := by rfl)
    (hall : (backToKw pos (keywordEach kws X.env)).all (·.1.isSome) = true := by rfl) (hks : (backToKw pos (keywordEach kws X.env)).filterMap (·.1) = ks := by rfl)
    (hdb : (x == ("__debug__" : Str)) = false := by decide) (hpl : ((backTo pos (starEach [] X.env)).any (·.1) || (backToKw pos (keywordEach kws X.env)).any (·.1.isNone)) = false := by rfl) :
    PE X (.Call (.Name x p) [] kws pos) (tMkK C n mk tk) := by
  obtain ⟨fI, fd, hi, tI, F, _, hb⟩ := D.ini
  have hn : ps.length = n + 1 := by
    have z := F.len (.ref 0 :: List.replicate n .non) (upd (fun _ => none) 0 (exo 0 C none 0)) (fun _ _ => True) E0 ⟨0, 0, _, rfl, List.length_replicate, upd_same, fun _ _ _ => trivial⟩
    rw [← z]; simp
  refine ⟨fun pins s σ H Q I h => ?_⟩
  refine wpAny_Call_Name_kw (ld_glob I hg D.g ?_ hdb)
  refine PySem.W.callWith_KW0 (h₀ := X.base) I.ok.mod.kin D.cl.kC hall ?_ hpl
  refine thn (hkw.run pos pins s σ H _ I h) fun ws s2 ⟨zs, H2, I2, rz, l, q2⟩ => ⟨I2.kIn, ?_⟩
  rw [hks]
  have kb : KBinds X.K fd ps ks (fun us ws => if us.length = 1 ∧ ws.length = n then us ++ ws.reverse else []) (fun vs zs => if vs.length = 1 ∧ zs.length = n then vs ++ zs.reverse else []) := by
    refine ⟨fun s us ws _ hl => ?_, fun {vs us zs ws} r rz => ?_⟩
    · by_cases c : us.length = 1 ∧ ws.length = n
      · rw [if_pos c]
        match us, c.1 with
        | [u], _ => exact .of_eq (hb u ws c.2 ks hks2)
      · rw [if_neg c, hn] at hl
        cases hl
    · have e1 : vs.length = us.length := r.length
      have e2 : zs.length = ws.length := rz.length
      show Vals (if vs.length = 1 ∧ zs.length = n then vs ++ zs.reverse else []) (if us.length = 1 ∧ ws.length = n then us ++ ws.reverse else [])
      rw [e1, e2]
      by_cases c : us.length = 1 ∧ ws.length = n
      · rw [if_pos c, if_pos c]; exact r.append (paired_rev rz)
      · rw [if_neg c, if_neg c]; exact .nil
  exact run_mk (us := []) (vs := []) b D.cl hi tI F hr kb I2 .nil rz (Nat.zero_le _) (fun a => ⟨zs.reverse, if_pos ⟨rfl, l⟩, by rw [List.length_reverse]; exact l, rfl⟩) q2
end
end Exv

set_option Elab.async false
set_option linter.all false
set_option maxRecDepth 100000
set_option maxHeartbeats 4000000
namespace PySem
namespace Exv
open PySem.W PySem.Calls PyProof.Rows
section
variable {prog : Program} {w : World} {A : Around} {E : Value → Shared → Prop} {s : Shared} {K : Frag} {x D : Addr} {ox : Obj} {od : Option Obj}
/-- the class of an error, asked as an attribute -/
theorem kin_cls {Q : Option Value → Shared → Prop} (hga : findIn K (.ref D) "__getattribute__" = some (some (.builtin "BaseException.__getattribute__")))
    (hgt : findIn K (.ref D) "__getattr__" = some none) (hsub : subIn K (.ref D) (.type "BaseException") = some true)
    (hf : findObj K D od "__class__" = some (.bind (.builtin "getset_descriptor.__get__") (.builtin "object.__class__"))) (hm : mroIn K D (.type "object") = some true)
    (X : K.In s.heap) (I : InstAt s.heap x ox D od) (h : Q (some (.ref D)) { s with toks := s.toks + 1 }) : wpAny (model prog w) A (getAttr? (.ref x) "__class__") Q E s := by
  obtain ⟨hp, g, d, t, os⟩ := s
  have l0 := I.type (M := model prog w)
  have l1 := looks_findIn (M := model prog w) X hga
  have l2 := looks_findIn (M := model prog w) X hgt
  have l3 := looks_find (M := model prog w) X I hf
  have sub : Looks (model prog w) hp (isInstance (.ref x) (.type "BaseException")) true := l0.andThen (looks_subIn X hsub)
  have z0 : (false && onTheHeap (Value.builtin "BaseException.__getattribute__")) = false := rfl
  have z2 : (Value.builtin "BaseException.__getattribute__" == Value.builtin "object.__getattribute__") = false := by decide +kernel
  have z1 : (onTheHeap (Value.ref D) && Value.builtin "BaseException.__getattribute__" == Value.builtin "object.__getattribute__") = false := by
    rw [z2]
    rfl
  unfold getAttr? getAttrBy? getAttrBy
  refine wpAny_bind (wpAny_mkText (wpAny_bind (wpAny_attempt (wpAny_holding (wpAny_bind (l0.at (wpAny_bind (l1.at ?_))))))))
  show wpAny _ _ (if (onTheHeap (Value.ref D) && Value.builtin "BaseException.__getattribute__" == Value.builtin "object.__getattribute__") = true then _ else _) _ _ _
  rw [z1, if_neg Bool.false_ne_true]
  unfold getAttrByItsOwn hookBefore
  refine wpAny_bind ?_
  rw [if_pos (show onTheHeap (Value.ref D) = true from rfl)]
  refine l2.at ?_
  refine wpAny_bind (wpAny_attempt (wpAny_holding ?_))
  unfold callGetattribute
  rw [z0, if_neg Bool.false_ne_true]
  unfold boundAndCalled
  rw [PySem.F.excAttr_ValueError.ga.bind (.ref x)]
  refine wpAny_bind (wpAny_pure ?_)
  show wpAny _ _ (call (.builtin "BaseException.__getattribute__") [.ref x, .str "__class__" t]) _ _ _
  refine wpAny_call (codeAny_call_builtin PySem.F.excAttr_ValueError.ga.plain PySem.F.entry_bexc_ga ?_)
  refine @check_slot (model prog w) _ _ ⟨hp, g, d, t + 1, os⟩ "BaseException.__getattribute__" "BaseException" "__getattribute__" (.ref x) [.str "__class__" t] [] _
    (by decide +kernel) (by decide +kernel) sub (PySem.F.args_bexc_ga (.ref x) (.str "__class__" t)) ?_
  unfold Builtin.«object.__getattribute__»
  refine wpAny_bind (wpAny_of_eq (a := ((Value.ref x : Value), [Value.str "__class__" t])) (by first | rfl | (simp only [slotArgs]; rfl)) ?_)
  refine wpAny_bind (wpAny_pure (wpAny_bind (l0.at (wpAny_bind (l3.at ?_)))))
  show wpAny _ _ (holding [Value.builtin "object.__class__"] (call (.builtin "getset_descriptor.__get__") [.builtin "object.__class__", .ref x, .ref D]) >>= ret) _ _ _
  refine wpAny_bind (wpAny_holding (wpAny_call (class_get (s := ⟨hp, g, d, t + 1, os⟩) (ox := ox) (od := od) X I hm ?_)))
  refine wpAny_pure ?_
  show wpAny _ _ (handedOut (.ref D)) _ _ _
  rw [handedOut_of (v := .ref D) rfl]
  first
    | exact wpAny_pure (wpAny_pure h)
    | exact wpAny_pure h
    | exact wpAny_pure (wpAny_bind (wpAny_pure (wpAny_pure h)))
theorem kit_exc (hga : findIn K (.ref D) "__getattribute__" = some (some (.builtin "BaseException.__getattribute__")))
    (hgt : findIn K (.ref D) "__getattr__" = some none) (hsub : subIn K (.ref D) (.type "BaseException") = some true) (hd : hasDictIn K D = true)
    (hf : findObj K D od "__class__" = some (.bind (.builtin "getset_descriptor.__get__") (.builtin "object.__class__"))) (hm : mroIn K D (.type "object") = some true) :
    KitX K (.ref x) (.ref D) (fun h => InstAt h x ox D od) where
  ty := fun _ _ _ I => I.type
  it := fun _ _ X _ => by
    obtain ⟨cdD, hcD, _⟩ := any_some hd
    unfold clsIn at hcD
    split at hcD
    · rename_i c' d' cd' sl' ho
      intro A' Q' E' s' k q
      unfold isType loadHead
      exact wpAny_bind (wpAny_loadPart (k _ _ (X _ _ ho)) (wpAny_pure q))
    · cases hcD
  ne := fun h tp dd its n sl X htp => by
    obtain ⟨cdD, hcD, _⟩ := any_some hd
    refine Bool.eq_false_iff.mpr fun q => ?_
    have e : D = tp := Value.ref.inj (beq_iff_eq.mp q)
    subst e
    unfold clsIn at hcD
    split at hcD
    · rename_i c' d' cd' sl' ho
      have z := (X _ _ ho).symm.trans htp
      cases z
    · cases hcD
  ca := fun X I k => kin_cls hga hgt hsub hf hm X I k
end
end Exv
end PySem

namespace Exv
open PySem L2 Lay PyProof.Rows
/-- what isinstance asks of the written part, once -/
structure Gs (K : PySem.W.Frag) : Prop where
  hn : PySem.W.specialIn K (.builtin "object.__class__") "__get__" = some (some (.builtin "getset_descriptor.__get__"))
  ht : PySem.W.takesIn K (.builtin "object.__class__") = some true
/-- a value's kind: those of the library, or an own error -/
inductive TyE (K : PySem.W.Frag) (H : Hp) : V → Value → Prop where
  | base {x : V} {t : Value} (h : TyX K H x t) : TyE K H x t
  | exc {a C : Addr} {fs : List (Str × V)} {args : List V} {newId : String} {bmB : List Value} (h : IsExc H a C fs args) (T : Cl K C newId bmB) : TyE K H (.ref a) (.ref C)
def rIsE (K : PySem.W.Frag) : List V → Hp → VK → Prop := fun xs H Q => ∃ (x c : V) (t u : Value) (b : Bool), xs = [x, c] ∧ ClsV c u ∧ TyE K H x t ∧ PySem.W.kitOne K t u = some b ∧ Q (.bl b) H
/-- e.f, e an error -/
def tAt (K : PySem.W.Frag) (f : Str) (te : TE) : TE := fun σ H Q => te σ H fun x H1 => ∃ (a C : Addr) (fs : List (Str × V)) (args : List V) (v : V), x = .ref a ∧ IsExc H1 a C fs args ∧
  (∃ newId bmB, Cl K C newId bmB) ∧ PySem.W.findIn K (.ref C) f = some none ∧ fs.lookup f = some v ∧ Q v H1
/-- self.f = e, self an error -/
def tSt (K : PySem.W.Frag) (newId : String) (bmB : List Value) (f : Str) (to te : TE) : TS := fun D σ H => te σ H fun y H1 => to σ H1 fun x H2 => ∃ a C t1 : Addr, x = .ref a ∧ Cl K C newId bmB ∧ PySem.W.findIn K (.ref C) f = some none ∧
  ((H2 a = some (exo a C none t1) ∧ ∀ dx, H2 dx = none → dx ≠ a → D.nx σ (upd (upd H2 dx (exd dx [(f, y)])) a (exo a C (some dx) t1))) ∨
    ∃ (dx : Addr) (fs : List (Str × V)), H2 a = some (exo a C (some dx) t1) ∧ H2 dx = some (exd dx fs) ∧ fs.length ≤ 900 ∧ D.nx σ (upd H2 dx (exd dx ((f, y) :: fs))))
section
variable {X : Cx} {o e : Expr} {to te : TE} {f : Str} {p p' pos : Pos} {B newId initId : String} {bmB : List Value}
theorem ps_st (b : Bs B newId initId bmB) (ho : PE X o to) (he : PE X e te) (hs : swapsWith e (some (.Attribute o f p')) pos.line X.env = pure false := by rfl) : PS X (.Assign [.Attribute o f p'] e pos) (tSt X.K newId bmB f to te) := by
  refine ⟨fun pins s σ H D I h => ?_⟩
  refine plainObj_wpAny_Assign_Attribute (thn (he.run pins s σ H _ I h) fun v s1 ⟨y, H1, I1, r1, q1⟩ => thn (ho.run pins s1 σ H1 _ I1 q1) fun u s2 ⟨x, H2, I2, r2, a, C, t1, ex, T, hno, q⟩ => ?_) hs
  subst ex
  obtain rfl : u = Value.ref a := r2
  rcases q with ⟨ea, q⟩ | ⟨dx, fs, ea, ed, hl, q⟩
  · exact st_new b T I2 ea hno r1 fun dx s' n ne J => ⟨σ, _, J, q dx n ne⟩
  · exact st_old b T I2 ea ed hl hno r1 fun s' J => ⟨σ, _, J, q⟩
theorem pe_at (he : PE X e te) (hb : attributeBase e f X.env (eval e X.env) = eval e X.env := by rfl) : PE X (.Attribute e f pos) (tAt X.K f te) := by
  refine ⟨fun pins s σ H Q I h => ?_⟩
  refine attr_of hb (thn (he.run pins s σ H _ I h) fun u s1 ⟨x, H1, I1, rx, a, C, fs, args, v, ex, hx, ⟨newId, bmB, T⟩, hno, hl, q⟩ => ?_)
  subst ex
  obtain rfl : u = Value.ref a := rx
  obtain ⟨t, ht, hx⟩ := hx
  rcases hx with ⟨z, hx⟩ | ⟨d, hx, hd⟩
  · subst z; cases hl
  · exact at_get T I1 hx hd hl hno fun u' s2 ru J => ⟨v, H1, J, ru, q⟩
theorem call_isE (G : Gs X.K) : CallR X (.builtin "isinstance") (rIsE X.K) := by
  intro pins s σ H xs us Q I r h
  obtain ⟨x, c, t, u, b, rfl, k, ty, e, q⟩ := h
  cases ty with
  | base ty => exact call_isi pins s σ H _ us Q I r ⟨x, c, t, u, b, rfl, k, ty, e, q⟩
  | @exc a C fs args newId bmB hx T =>
    obtain ⟨u1, u2, rfl, r1, r2⟩ := vals2 r
    have e2 := k.eq r2
    subst e2
    cases (show u1 = Value.ref a from r1)
    obtain ⟨t, ht, hx⟩ := hx
    have hc : (PySem.W.clsIn X.K C).isSome = true := by
      obtain ⟨cd, bm, h1, _⟩ := T.cd
      rw [h1]; rfl
    rcases hx with ⟨z, hx⟩ | ⟨d, hx, hd⟩
    · have J : PySem.W.InstAt s.heap a _ C none := ⟨exo_at I.hok hx, rfl, rfl, trivial⟩
      exact PySem.W.kia_one (PySem.Exv.kit_exc T.ga T.gg T.exC T.hd (PySem.W.findObj_dataN hc T.ha G.hn G.ht) T.hm) I.kIn J e (fun z => nomatch z) fun tk => ⟨.bl b, H, I.tok tk, rfl, q⟩
    · obtain ⟨mA, hns, rel⟩ := exd_at I.hok hd
      obtain ⟨od, hod, hl⟩ := lookIn_ns hns
      have J : PySem.W.InstAt s.heap a _ C (some od) := ⟨exo_at I.hok hx, rfl, rfl, hod⟩
      exact PySem.W.kia_one (PySem.Exv.kit_exc T.ga T.gg T.exC T.hd (PySem.W.findObj_data hc T.ha G.hn G.ht) T.hm) I.kIn J e (fun z => nomatch z) fun tk => ⟨.bl b, H, I.tok tk, rfl, q⟩
end

/-! ### the three shapes of __init__ -/
def mk0 : List V → List (Str × V) := fun _ => []
def mk1 (f : Str) : List V → List (Str × V)
  | [v] => [(f, v)]
  | _ => []
def mk2 (f g : Str) : List V → List (Str × V)
  | [v, u] => [(g, u), (f, v)]
  | _ => []
section
variable {P : Program} {w : World} {K : PySem.W.Frag} {mg : Str → Option Value} {base : Heap} {C fI : Addr} {fd : FuncData} {qual : Str} {st : Stmt} {B newId initId : String} {bmB : List Value} {f g : Str}
theorem init0 {q : Pos} (F : Fun K "__init__" qual st fI fd) (S : FnScope ["self"] ["self"] (defScope st)) (hb : defBody st = [.Pass q]) : FnOk P w K mg base CX0 1 fI fd ["self"] (spI C 0 mk0) := by
  refine F.ok S (fun vs H Q E h => ?_) (fun cdv A outer s H vs Q E hr h => ?_)
  · obtain ⟨a, t, ws, rfl, l, _⟩ := h
    show ws.length + 1 = 1
    rw [l]
  · obtain ⟨a, t, ws, rfl, l, ha, k⟩ := h
    rw [hb]
    exact ⟨_, pss_one ps_pass, k H (fun _ _ _ e => e) (.inl ⟨rfl, ha⟩)⟩
theorem init1 {q1 q2 q3 q4 : Pos} (b : Bs B newId initId bmB) (F : Fun K "__init__" qual st fI fd) (S : FnScope ["self", f] ["self", f] (defScope st)) (hb : defBody st = [.Assign [.Attribute (.Name "self" q1) f q2] (.Name f q3) q4])
    (hd1 : (f == ("__debug__" : Str)) = false) (hd2 : (f == ("__classdict__" : Str)) = false) (T : Cl K C newId bmB) (no : PySem.W.findIn K (.ref C) f = some none)
    (hsw : ∀ env, swapsWith (.Name f q3) (some (.Attribute (.Name "self" q1) f q2)) q4.line env = pure false) : FnOk P w K mg base CX0 1 fI fd ["self", f] (spI C 1 (mk1 f)) := by
  refine F.ok S (fun vs H Q E h => ?_) (fun cdv A outer s H vs Q E hr h => ?_)
  · obtain ⟨a, t, ws, rfl, l, _⟩ := h
    show ws.length + 1 = 2
    rw [l]
  · obtain ⟨a, t, ws, rfl, l, ha, k⟩ := h
    rw [hb]
    match ws, l with
    | [v], _ =>
      refine ⟨_, pss_one (ps_st b (pe_var (i := 0) rfl ((S.par "self" (List.Mem.head _)).elim .inl fun z => .inr (.inl z))) (pe_var (i := 1) rfl ((S.par f (.tail _ (List.Mem.head _))).elim .inl fun z => .inr (.inl z)) hd1 hd2) (hsw _)), ?_⟩
      refine ⟨v, rfl, .ref a, rfl, a, C, t, rfl, T, no, .inl ⟨ha, fun dx nd ne => ?_⟩⟩
      refine k _ (fun b o n e => ?_) (.inr ⟨dx, upd_same, ?_⟩)
      · rw [upd_ne n, upd_ne (ne_of_none e nd)]; exact e
      · rw [upd_ne ne, upd_same]; rfl
theorem init2 {q1 q2 q3 q4 q5 q6 q7 q8 : Pos} (b : Bs B newId initId bmB) (F : Fun K "__init__" qual st fI fd) (S : FnScope ["self", f, g] ["self", f, g] (defScope st))
    (hb : defBody st = [.Assign [.Attribute (.Name "self" q1) f q2] (.Name f q3) q4, .Assign [.Attribute (.Name "self" q5) g q6] (.Name g q7) q8])
    (hd1 : (f == ("__debug__" : Str)) = false) (hd2 : (f == ("__classdict__" : Str)) = false) (hd3 : (g == ("__debug__" : Str)) = false) (hd4 : (g == ("__classdict__" : Str)) = false)
    (T : Cl K C newId bmB) (no : PySem.W.findIn K (.ref C) f = some none) (no2 : PySem.W.findIn K (.ref C) g = some none)
    (hsw : ∀ env, swapsWith (.Name f q3) (some (.Attribute (.Name "self" q1) f q2)) q4.line env = pure false) (hsw2 : ∀ env, swapsWith (.Name g q7) (some (.Attribute (.Name "self" q5) g q6)) q8.line env = pure false) :
    FnOk P w K mg base CX0 1 fI fd ["self", f, g] (spI C 2 (mk2 f g)) := by
  refine F.ok S (fun vs H Q E h => ?_) (fun cdv A outer s H vs Q E hr h => ?_)
  · obtain ⟨a, t, ws, rfl, l, _⟩ := h
    show ws.length + 1 = 3
    rw [l]
  · obtain ⟨a, t, ws, rfl, l, ha, k⟩ := h
    rw [hb]
    match ws, l with
    | [v, u], _ =>
      have vs := (S.par "self" (List.Mem.head _)).elim (fun z => (.inl z : Vis _ _)) fun z => .inr (.inl z)
      refine ⟨_, pss_cons (ps_st b (pe_var (i := 0) rfl ((S.par "self" (List.Mem.head _)).elim .inl fun z => .inr (.inl z))) (pe_var (i := 1) rfl ((S.par f (.tail _ (List.Mem.head _))).elim .inl fun z => .inr (.inl z)) hd1 hd2) (hsw _))
        (pss_one (ps_st b (pe_var (i := 0) rfl ((S.par "self" (List.Mem.head _)).elim .inl fun z => .inr (.inl z))) (pe_var (i := 2) rfl ((S.par g (.tail _ (.tail _ (List.Mem.head _)))).elim .inl fun z => .inr (.inl z)) hd3 hd4) (hsw2 _))), ?_⟩
      refine ⟨v, rfl, .ref a, rfl, a, C, t, rfl, T, no, .inl ⟨ha, fun dx nd ne => ?_⟩⟩
      refine ⟨u, rfl, .ref a, rfl, a, C, t, rfl, T, no2, .inr ⟨dx, _, upd_same, by rw [upd_ne ne, upd_same], by show 1 ≤ 900; decide, ?_⟩⟩
      refine k _ (fun b o n e => ?_) (.inr ⟨dx, ?_, ?_⟩)
      · rw [upd_ne (ne_of_none e nd), upd_ne n, upd_ne (ne_of_none e nd)]; exact e
      · rw [upd_ne ne.symm, upd_same]
      · rw [upd_same]; rfl
end
end Exv

set_option Elab.async false
set_option linter.all false
set_option maxRecDepth 100000
set_option maxHeartbeats 4000000
namespace PySem
namespace Exv
open Builtin Builtin.Str Builtin.BaseException Builtin.Exceptions
section
variable {prog : Program} {w : World} {A : Around} {E : Value → Shared → Prop} {K : W.Frag} {e C t0 : Addr} {hp : Heap} {g : Array GenState} {d : Drawn} {t : Nat} {os : OsState}
/-- BaseException.__repr__ of an own error that was made of other than one thing -/
theorem bexc_own {b : Nat} {Q : Fin → Shared → Prop} {ox : Obj} {od : Option Obj} {cd : ClassData} {fv : Array Value} {items : List Value} {tt : Str}
    (X : K.In hp) (I : W.InstAt hp e ox C od) (hcd : W.clsIn K C = some cd) (hd : ox.data = .fields fv) (h0 : fv[0]? = some (.ref t0))
    (ht : hp.TupAt t0 items) (hi : items.length ≠ 1) (hb : b + (Str.ofString ((cd.name.toString.cutAt '.').getLastD "")).length ≤ sizeLine)
    (hr : ∀ Q' : Str → Shared → Prop, (∀ h' tk, (∀ b o, hp.get? b = some o → h'.get? b = some o) → Q' tt ⟨h', g, d, tk, os⟩) →
      wpAny (model prog w) A (pyReprUnder (b + (Str.ofString ((cd.name.toString.cutAt '.').getLastD "")).length) (.ref t0)) Q' E ⟨hp, g, d, t, os⟩)
    (hz : (Str.ofString ((cd.name.toString.cutAt '.').getLastD "") ++ tt).length ≤ sizeLine)
    (hq : ∀ h' u tk, (∀ b o, hp.get? b = some o → h'.get? b = some o) → Q (.done (.ret (.str (Str.ofString ((cd.name.toString.cutAt '.').getLastD "") ++ tt) u))) ⟨h', g, d, tk, os⟩) :
    wpAny (model prog w) A (Builtin.bexcReprAt b ⟨[.ref e], []⟩) Q E ⟨hp, g, d, t, os⟩ := by
  have l0 := I.type (M := model prog w)
  have hcls : W.Looks (model prog w) hp (classData C) cd := W.looks_clsIn X hcd
  obtain ⟨ot, k, hto, _, htd⟩ := ht
  unfold Builtin.bexcReprAt typeNameOfWhole shownTypeOf typeNameWhole bexcArgs
  repeat (first
    | with_reducible refine l0.at ?_
    | with_reducible refine hcls.at ?_
    | with_reducible refine wpAny_field I.1 hd h0 ?_
    | with_reducible refine wpAny_seqItems hto htd ?_
    | wp_step)
  have fin : wpAny (model prog w) A (do
      let z ← pyReprUnder (b + (Str.ofString ((cd.name.toString.cutAt '.').getLastD "")).length) (.ref t0)
      retStr (Str.ofString ((cd.name.toString.cutAt '.').getLastD "") ++ z)) Q E ⟨hp, g, d, t, os⟩ := by
    refine wpAny_bind (hr _ fun h' tk kp => ?_)
    repeat wp_step
    exact hq h' _ _ kp
  have e1 : items.toArray.toList = items := by simp
  rw [e1]
  match items, hi with
  | [], _ => exact fin
  | x :: y :: r, _ => exact fin

/-- its text, within another's -/
theorem repr_exc {as : List Addr} {h0 : Heap} {dp : Nat} {ox : Obj} {od : Option Obj} {cd : ClassData} {fv : Array Value} {items : List Value} {ts : List Str}
    (X : K.In h0) (hX : ∀ hh : Heap, (∀ b o, h0.get? b = some o → hh.get? b = some o) → W.InstAt hh e ox C od) (hcd : W.clsIn K C = some cd)
    (hrp : W.findIn K (.ref C) "__repr__" = some (some (.builtin "BaseException.__repr__"))) (hsub : W.subIn K (.ref C) (.type "BaseException") = some true)
    (hd : ox.data = .fields fv) (hf : fv[0]? = some (.ref t0)) (ht : h0.TupAt t0 items) (hi : items.length ≠ 1) (hn : t0 ∉ as)
    (hk : ReprAllK prog w as h0 dp items ts) :
    ReprK prog w (t0 :: as) h0 (dp + 2) (.ref e) (Str.ofString ((cd.name.toString.cutAt '.').getLastD "") ++ tupleText ts) := by
  intro base hb A g E s Q hg hcl hu hk0 hQ
  have hl : base + ((Str.ofString ((cd.name.toString.cutAt '.').getLastD "")).length + (tupleText ts).length) ≤ sizeLine := by
    rw [← strLen_append]; exact hb
  refine wpAny_pyReprUnder_ref (by omega) ?_
  have I := hX _ hk0
  have Xs : K.In s.heap := X.keeps hk0
  have l0 := I.type (M := model prog w)
  have l1 := W.looks_findIn (M := model prog w) Xs hrp
  have bnd : ∀ self, bindSpecial (.builtin "BaseException.__repr__") self = pure (.builtin "BaseException.__repr__", [self]) := F.excStr_ValueError.repr.toG.bind
  have sub : W.Looks (model prog w) s.heap (isInstance (.ref e) (.type "BaseException")) true := l0.andThen (W.looks_subIn Xs hsub)
  obtain ⟨ot, k, hto, htc, htd⟩ := id ht
  have core : wpAny (model prog w) A (call (.builtin "BaseException.__repr__.under") [.ref e, rawInt base])
      (fun v s' => (∃ x u, v = .str x u) ∧ ∃ x u, v = .str x u ∧ Q x s') E s := by
    refine wpAny_call (codeAny_call_builtin F.plain_bexc_repr_under F.entry_bexc_repr_under ?_)
    rw [F.check_bexc_repr_under]
    refine wpAny_pure ?_
    show wpAny _ _ (reprTwin "BaseException.__repr__" Builtin.bexcReprAt ⟨[.ref e, rawInt base], []⟩) _ _ _
    rw [reprTwin_eq]
    refine wpAny_bind (@W.check_slot (model prog w) _ _ s "BaseException.__repr__" "BaseException" "__repr__" (.ref e) [] [] _ (by decide +kernel) (by decide +kernel) sub (F.args_bexc_repr _) ?_)
    obtain ⟨hp, gn, dr, tk, os⟩ := s
    refine bexc_own (K := K) (tt := tupleText ts) Xs I hcd hd hf ⟨ot, k, hk0 _ _ hto, htc, htd⟩ hi (by omega) (fun Q' hq' => ?_) (by rw [strLen_append]; omega) (fun h' u tk kp => ?_)
    · exact ReprK.tuple hto htc htd hn (by simpa using hk) _ (by omega) A.in1 g _ _ Q' (by simpa using hg) hcl (by show A.units + 1 + (dp + 1) < cLine; omega) hk0 fun h' tk kp => hq' h' tk kp
    · exact ⟨⟨_, _, rfl⟩, _, _, rfl, hQ h' tk kp⟩
  unfold pyReprObjUnder pyReprObjBy
  refine wpAny_bind (wpAny_cRoomFor (by omega) ?_)
  unfold specialOf
  refine wpAny_bind (wpAny_bind (l0.at (l1.at ?_)))
  simp only [Option.isNone_some, Bool.false_eq_true, if_false]
  refine wpAny_bind ?_
  simp only [callSpecialIfBoundBy?, bindSpecialIfBound?, specialOf]
  refine wpAny_holding (wpAny_bind (wpAny_bind (wpAny_bind (l0.at (l1.at ?_)))))
  simp only [bnd]
  refine wpAny_bind (wpAny_askSetting (wpAny_ite ?_))
  have fin : wpAny (model prog w) A (call (.builtin "BaseException.__repr__.under") [.ref e, rawInt base] >>= fun v => pure (some v))
      (fun o s' => wpAny (model prog w) A (match o with
        | some r => (do
          let b ← isInstance r (.type "str")
          if b = true then pure r else do
            let z ← typeNameOf r
            raiseErrorMade "TypeError" (toString "__repr__ returned non-string (type " ++ toString z ++ toString ")"))
        | none => unsupported "repr:special-get-raises") (fun v s' => ∃ x u, v = .str x u ∧ Q x s') E s') E s := by
    refine wpAny_bind (wpAny_mono core (fun v s' hv => wpAny_pure ?_) fun _ _ x => x)
    obtain ⟨⟨x, u, rfl⟩, hq⟩ := hv
    exact wpAny_bind (wpAny_isInstance (T := "str") (b := true) rfl isSubtype_str_str (wpAny_pure hq))
  split
  · exact wpAny_bind (wpAny_pure (wpAny_pure fin))
  · exact wpAny_tryCatch (wpAny_bind (wpAny_pure (wpAny_pure fin)))
end
end Exv
end PySem

set_option Elab.async false
set_option linter.all false
set_option maxRecDepth 100000
set_option maxHeartbeats 4000000
namespace Rp
open PySem L2 Lay Exv
/-- what an own error's class tells for its text -/
structure ClR (K : PySem.W.Frag) (C : Addr) (nm : Str) : Prop where
  cl : ∃ newId bmB, Cl K C newId bmB
  cd : ∃ cd, PySem.W.clsIn K C = some cd ∧ Str.ofString ((cd.name.toString.cutAt '.').getLastD "") = nm
  rp : PySem.W.findIn K (.ref C) "__repr__" = some (some (.builtin "BaseException.__repr__"))
mutual
/-- the text of a value, over what is tracked; the containers within -/
inductive Sw (K : PySem.W.Frag) (H : Hp) : List Addr → V → Str → Prop where
  | non : Sw K H [] .non "None"
  | bl (b : Bool) : Sw K H [] (.bl b) (if b then "True" else "False")
  | int (i : Int) (h : i.natAbs.log2 < 1920) : Sw K H [] (.int i) (toString i)
  | str (z : Str) : Sw K H [] (.str z) (reprText z)
  | lst0 {a : Addr} (h : H a = some (.lst [])) : Sw K H [] (.ref a) "[]"
  | lst {a : Addr} {as : List Addr} {x : V} {xs : List V} {ts : List Str} (h : H a = some (.lst (x :: xs))) (l : SwL K H as (x :: xs) ts) (n : a ∉ as) : Sw K H (a :: as) (.ref a) (listText ts)
  | tup {a : Addr} {as : List Addr} {xs : List V} {ts : List Str} (h : H a = some (.tup xs)) (l : SwL K H as xs ts) (n : a ∉ as) : Sw K H (a :: as) (.ref a) (tupleText ts)
  | dct {a : Addr} {as : List Addr} {kvs : List (Key × V)} {ks ts : List Str} (h : H a = some (.dK kvs)) (l1 : SwL K H [] (kvs.map fun p => kV p.1) ks) (l : SwL K H as (kvs.map (·.2)) ts) (n : a ∉ as) :
      Sw K H (a :: as) (.ref a) (dictText ((ks.zip ts).map fun p => p.1 ++ ": " ++ p.2))
  | exc {a C : Addr} {t : Addr} {as : List Addr} {xs : List V} {ts : List Str} {nm : Str} (d : Addr) {fs : List (Str × V)} (h : H a = some (exo a C (some d) t)) (hd : H d = some (exd d fs)) (ht : H t = some (.tup xs)) (R : ClR K C nm) (l : SwL K H as xs ts)
      (n : t ∉ as) (hl : xs.length ≠ 1) : Sw K H (t :: as) (.ref a) (nm ++ tupleText ts)
inductive SwL (K : PySem.W.Frag) (H : Hp) : List Addr → List V → List Str → Prop where
  | nil : SwL K H [] [] []
  | cons {as bs : List Addr} {x : V} {t : Str} {xs : List V} {ts : List Str} (h : Sw K H as x t) (l : SwL K H bs xs ts) : SwL K H (as ++ bs) (x :: xs) (t :: ts)
end
section
variable {P : Program} {w : World} {K : PySem.W.Frag} {H : Hp} {h : Heap}
theorem all_at {as : List Addr} {d : Nat} : ∀ {us : List Value} {ts : List Str}, ReprAllK P w as h d us ts → ∀ (i : Nat) (y : Value), us[i]? = some y → ∃ t, ts[i]? = some t ∧ ReprK P w as h d y t
  | _, _, .nil, i, y, e => by simp at e
  | _, _, .cons r l, 0, y, e => by simp at e; subst e; exact ⟨_, rfl, r⟩
  | _, _, .cons r l, i + 1, y, e => by
    obtain ⟨t, h1, h2⟩ := all_at l i y (by simpa using e)
    exact ⟨t, by simpa using h1, h2⟩
theorem all_more {as as' : List Addr} {d d' : Nat} (hs : ∀ b ∈ as, b ∈ as') (hd : d ≤ d') : ∀ {us : List Value} {ts : List Str}, ReprAllK P w as h d us ts → ReprAllK P w as' h d' us ts
  | _, _, .nil => .nil
  | _, _, .cons r l => .cons ((r.more hs).level_le hd) (all_more hs hd l)
theorem keys_vals : ∀ {es : List DictEntry} {vs : List (Key × Value)} {kvs : List (Key × V)}, Pairs (mixKind P w) es vs → KV kvs vs → Vals (kvs.map fun p => kV p.1) (es.map (·.key)) ∧ Vals (kvs.map (·.2)) (es.map (·.val))
  | _, _, _, .nil, .nil => ⟨.nil, .nil⟩
  | e :: es, (k, v) :: vs, (k', v') :: kvs, .cons h1 h2 l, .cons r rr => by
    obtain ⟨a, b⟩ := keys_vals l rr
    obtain ⟨e1, r1⟩ := r
    have e1' : k' = k := e1
    subst e1'
    refine ⟨.cons ?_ a, .cons (by show RelV v' e.val; rw [h2]; exact r1) b⟩
    have z : keyIs k' e.key = true := h1
    rcases keyIs_shape z with ⟨i, t, rfl, e2⟩ | ⟨x, t, rfl, e2⟩
    · exact ⟨t, e2⟩
    · exact ⟨t, e2⟩
theorem ents {as : List Addr} {d : Nat} : ∀ {es : List DictEntry} {ks ts : List Str}, ReprAllK P w as h d (es.map (·.key)) ks → ReprAllK P w as h d (es.map (·.val)) ts → ReprEntriesK P w as h d es ((ks.zip ts).map fun p => p.1 ++ ": " ++ p.2)
  | [], _, _, .nil, .nil => .nil
  | e :: es, _, _, .cons k1 l1, .cons k2 l2 => .cons k1 k2 (ents l1 l2)
theorem swl_len : ∀ {as : List Addr} {xs : List V} {ts : List Str}, SwL K H as xs ts → xs.length = ts.length
  | _, _, _, .nil => rfl
  | _, _, _, .cons _ l => by rw [List.length_cons, List.length_cons, swl_len l]
theorem mem_l {l1 l2 : List Str} (hl : l1.length = l2.length) {t : Str} (ht : t ∈ l1) : ∃ p ∈ (l1.zip l2).map (fun p => p.1 ++ (": " : Str) ++ p.2), t.length ≤ p.length := by
  obtain ⟨i, hi, e⟩ := List.getElem_of_mem ht
  refine ⟨l1[i] ++ (": " : Str) ++ l2[i], List.mem_map.mpr ⟨(l1[i], l2[i]), List.mem_iff_getElem.mpr ⟨i, by simp; omega, by simp⟩, rfl⟩, ?_⟩
  rw [← e, strLen_append, strLen_append]; omega
theorem mem_r {l1 l2 : List Str} (hl : l1.length = l2.length) {t : Str} (ht : t ∈ l2) : ∃ p ∈ (l1.zip l2).map (fun p => p.1 ++ (": " : Str) ++ p.2), t.length ≤ p.length := by
  obtain ⟨i, hi, e⟩ := List.getElem_of_mem ht
  refine ⟨l1[i] ++ (": " : Str) ++ l2[i], List.mem_map.mpr ⟨(l1[i], l2[i]), List.mem_iff_getElem.mpr ⟨i, by simp; omega, by simp⟩, rfl⟩, ?_⟩
  rw [← e, strLen_append]; omega
mutual
theorem sw_repr (ok : HOk P w H h) (X : K.In h) : ∀ {as : List Addr} {x : V} {t : Str} {u : Value}, Sw K H as x t → RelV x u → t.length ≤ sizeLine → ReprK P w as h (2 * as.length) u t
  | _, _, _, _, .non, r, _ => by cases (show _ = Value.none from r); exact .of_is ReprIs.none _ _ _
  | _, _, _, _, .bl b, r, _ => by cases (show _ = Value.bool b from r); exact .of_is (ReprIs.bool b) _ _ _
  | _, _, _, _, .int i hi, r, _ => by obtain ⟨t, e⟩ := r; subst e; exact .of_is (ReprIs.int t hi) _ _ _
  | _, _, _, _, .str z, r, hz => by obtain ⟨t, e⟩ := r; subst e; exact .of_is (ReprIs.str z t hz) _ _ _
  | _, _, _, _, .lst0 (a := a) e, r, _ => by
    cases (show _ = Value.ref a from r)
    obtain ⟨_, its, n, rv, e1⟩ := (show ObjOk P w H h a (.lst []) from ok a _ e)
    cases rv
    exact ReprK.listEmpty e1 rfl rfl
  | _, _, _, _, .lst (a := a) (as := as) (x := x) (xs := xs) (ts := ts) e l n, r, hz => by
    cases (show _ = Value.ref a from r)
    obtain ⟨_, its, m, rv, e1⟩ := (show ObjOk P w H h a (.lst (x :: xs)) from ok a _ e)
    have al := swl_repr ok X l rv (fun t ht => Nat.le_trans (listText_mem_le ht) hz)
    cases its with
    | nil => cases rv
    | cons y ys =>
      have k := ReprK.list e1 rfl rfl n (by simpa using al.length_eq) (fun i z q => all_at al i z (by simpa using q))
      exact k.level_le (by simp; omega)
  | _, _, _, _, .tup (a := a) (as := as) (xs := xs) (ts := ts) e l n, r, hz => by
    cases (show _ = Value.ref a from r)
    obtain ⟨_, its, rv, o, e1, e2, m, e3⟩ := (show ObjOk P w H h a (.tup xs) from ok a _ e)
    have al := swl_repr ok X l rv (fun t ht => Nat.le_trans (tupleText_mem_le ht) hz)
    have k := ReprK.tuple e1 e2 e3 n (by simpa using al)
    exact k.level_le (by simp; omega)
  | _, _, _, _, .dct (a := a) (as := as) (kvs := kvs) (ks := ks) (ts := ts) e l1 l n, r, hz => by
    cases (show _ = Value.ref a from r)
    obtain ⟨_, sy, vs, kv, ob, es, ep, e1, e2, e3, _, e4, _⟩ := (show ObjOk P w H h a (.dK kvs) from ok a _ e)
    obtain ⟨va, vb⟩ := keys_vals e4 kv
    have ll : ks.length = ts.length := by rw [← swl_len l1, ← swl_len l]; simp
    have a1 := swl_repr ok X l1 va (fun t ht => by
      obtain ⟨p, hp, hl⟩ := mem_l ll ht
      exact Nat.le_trans hl (Nat.le_trans (dictText_mem_le hp) hz))
    have a2 := swl_repr ok X l vb (fun t ht => by
      obtain ⟨p, hp, hl⟩ := mem_r ll ht
      exact Nat.le_trans hl (Nat.le_trans (dictText_mem_le hp) hz))
    have k := ReprK.dict e1 e2.1 e3 sy n (ents (all_more (fun b hb => absurd hb (by simp)) (by simp) a1) a2)
    exact k.level_le (by simp; omega)
  | _, _, _, _, .exc (a := a) (C := C) (t := t) (as := as) (xs := xs) (ts := ts) d e ed et R l n hl, r, hz => by
    cases (show _ = Value.ref a from r)
    obtain ⟨_, its, rv, o, e1, e2, m, e3⟩ := (show ObjOk P w H h t (.tup xs) from ok t _ et)
    obtain ⟨newId, bmB, T⟩ := R.cl
    obtain ⟨cd, hcd, hnm⟩ := R.cd
    subst hnm
    have al := swl_repr ok X l rv (fun t ht => Nat.le_trans (tupleText_mem_le ht) (Nat.le_trans (by rw [strLen_append]; exact Nat.le_add_left _ _) hz))
    have ho := exo_at ok e
    obtain ⟨mA, hns, rel⟩ := exd_at ok ed
    obtain ⟨od, hod, _⟩ := lookIn_ns hns
    have k := PySem.Exv.repr_exc (prog := P) (w := w) (e := a) (C := C) (t0 := t) X (fun hh kp => (⟨kp _ _ ho, rfl, rfl, kp _ _ hod⟩ : PySem.W.InstAt hh a _ C (some od))) hcd R.rp T.exC rfl rfl ⟨o, m, e1, e2, e3⟩ (by rw [← rv.length]; exact hl) n al
    exact k.level_le (by simp; omega)
theorem swl_repr (ok : HOk P w H h) (X : K.In h) : ∀ {as : List Addr} {xs : List V} {ts : List Str} {us : List Value}, SwL K H as xs ts → Vals xs us → (∀ t ∈ ts, t.length ≤ sizeLine) → ReprAllK P w as h (2 * as.length) us ts
  | _, _, _, _, .nil, r, _ => by cases r; exact .nil
  | _, _, _, _, .cons (as := as) (bs := bs) s l, r, hz => by
    cases r with
    | cons rx rr =>
      have k := sw_repr ok X s rx (hz _ (List.mem_cons_self ..))
      have al := swl_repr ok X l rr (fun t ht => hz t (List.mem_cons_of_mem _ ht))
      exact .cons ((k.more fun b hb => List.mem_append_left _ hb).level_le (by simp; omega)) (all_more (fun b hb => List.mem_append_right _ hb) (by simp; omega) al)
end
end
/-- repr of a list of at least one item -/
def rRepr (K : PySem.W.Frag) : List V → Hp → VK → Prop := fun xs H Q => ∃ (p : Addr) (as : List Addr) (ys : List V) (ts : List Str), xs = [.ref p] ∧ H p = some (.lst ys) ∧ SwL K H as ys ts ∧ ys ≠ [] ∧ p ∉ as ∧ as.length ≤ 30 ∧
  (listText ts).length ≤ sizeLine ∧ Q (.str (listText ts)) H
section
variable {X : Cx}
theorem call_repr (hg : X.A.guards = some []) (hu : X.A.units + 200 < cLine) : CallR X (.builtin "repr") (rRepr X.K) := by
  intro pins s σ H xs us Q I r h
  obtain ⟨p, as, ys, ts, rfl, hp, l, ne, hn, ha, hz, q⟩ := h
  obtain ⟨u, rfl, e⟩ := vals1 r
  cases (show u = Value.ref p from e)
  obtain ⟨_, its, m, rv, e1⟩ := (show ObjOk X.prog X.w H s.heap p (.lst ys) from I.hok p _ hp)
  have al := swl_repr I.hok I.kIn l rv (fun t ht => Nat.le_trans (listText_mem_le ht) hz)
  cases its with
  | nil => cases rv; exact absurd rfl ne
  | cons y yr =>
    refine call_repr_slot (by omega) ⟨_, e1, rfl⟩ F.slot_list_repr.toG ?_
    refine call_list_reprK (A := X.A.in1) e1 rfl rfl hn (by simpa using al.length_eq) (fun i z q => all_at al i z (by simpa using q)) (g := []) (by simpa using hg) (fun b _ => Clear.nil b) (by show X.A.units + 1 + (2 * as.length + 1) < cLine; omega)
      (fun _ _ e => e) (fun h' u tk kp => ⟨_, _, rfl, ⟨.str (listText ts), H, I.kept (t' := tk) kp, ⟨_, rfl⟩, q⟩⟩) hz
end
end Rp

set_option Elab.async false
set_option linter.all false
set_option maxRecDepth 100000
set_option maxHeartbeats 4000000
namespace Lay
open PySem L2
/-- a comprehension whose elements are told by themselves -/
theorem lc_pure {J : It} {n : Nat} {G : Hp → Prop} {Y : Nat → Hp → V → Hp → Prop} (wk : Walk J n G Y) {g : TG} {tt : TT} {te : TE} {vs : List Nat} {σ : L2.St} {H1 : Hp} {D : Addr} {Qd : Hp → Prop} (nD : H1 D = none) (hn : n < 100000)
    (hG : ∀ H, L2.Same H1 H → G H) (R : Nat → V → Prop)
    (hs : ∀ i x H H' (Kn : V → Hp → Prop) (Z : Hp → Prop), i < n → L2.Same H1 H → Y i H x H' → (∀ y H4, L2.Same H H4 → R i y → Kn y H4) →
      g x (wipe σ vs) H' fun σ2 H2 => wipe σ2 vs = wipe σ vs ∧ tt σ2 H2 fun b H3 => if b = true then te σ2 H3 Kn else Z H3)
    (hd : ∀ H xs, L2.Same H1 H → H D = some (.lst xs) → xs.length = n → (∀ i y, xs[i]? = some y → R i y) → Qd H) :
    ∃ W : Nat → Nat → Hp → Prop, (∃ m, W 0 m (upd H1 D (.lst []))) ∧ ∀ i m H, W i m H →
      (J.stop i H ∧ Qd H) ∨ (J.go i H ∧ ∃ Nx : Hp → Prop, (∀ H', Nx H' → ∃ m', m' < m ∧ W (i + 1) m' H') ∧ ∀ x H', J.yld i H x H' → g x (wipe σ vs) H' fun σ2 H2 => wipe σ2 vs = wipe σ vs ∧ tt σ2 H2 fun b H3 =>
        if b = true then te σ2 H3 fun y H4 => ∃ acc, H4 D = some (.lst acc) ∧ acc.length < sizeLine ∧ Nx (upd H4 D (.lst (acc ++ [y]))) else Nx H3) := by
  refine lc_it wk (fun i H => L2.Same H1 H ∧ ∃ xs, H D = some (.lst xs) ∧ xs.length = i ∧ ∀ j y, xs[j]? = some y → R j y) ?_ ?_ ?_ ?_
  · exact ⟨Same.new nD, [], upd_same, rfl, fun j y e => by simp at e⟩
  · exact fun i H _ h => hG H h.1
  · intro i x H H' hi ⟨sm, xs, hD, hl, hr⟩ y
    refine hs i x H H' _ _ hi sm y fun v H4 h4 hv => ⟨xs, h4 _ _ hD, by rw [hl]; exact Nat.lt_trans (Nat.lt_trans hi hn) (by decide), ?_⟩
    refine ⟨Same.mut (sm.trans h4) nD, xs ++ [v], upd_same, by simp [hl], fun j y e => ?_⟩
    by_cases hj : j < xs.length
    · rw [List.getElem?_append_left hj] at e
      exact hr j y e
    · rw [List.getElem?_append_right (by omega)] at e
      have hj2 : j - xs.length = 0 := by
        cases hk : j - xs.length with
        | zero => rfl
        | succ m => rw [hk] at e; simp at e
      rw [hj2] at e
      simp at e
      subst e
      have : j = i := by omega
      subst this
      exact hv
  · intro H ⟨sm, xs, hD, hl, hr⟩
    exact hd H xs sm hD hl hr
/-- all elements by a function -/
theorem eq_map {xs : List V} {n : Nat} {f : Nat → V} (hl : xs.length = n) (h : ∀ i y, xs[i]? = some y → y = f i) : xs = (List.range n).map f := by
  apply List.ext_getElem?
  intro i
  by_cases hi : i < n
  · have e := List.getElem?_eq_getElem (show i < xs.length by omega)
    rw [e, h i _ e, List.getElem?_map, List.getElem?_range hi]; rfl
  · rw [List.getElem?_eq_none (by omega), List.getElem?_eq_none (by simp; omega)]
theorem stopW {p : (Nat → Nat → L2.St → Hp → Prop) → Prop} (h : Exists p) : Exists p := h
theorem stopC {p : (Nat → Nat → Hp → Prop) → Prop} (h : Exists p) : Exists p := h
theorem un200 {k : Nat} {B : Around} (hr : Room k B) : B.units + 200 < cLine := by
  have := hr.un
  omega
end Lay

set_option Elab.async false
set_option linter.all false
set_option maxRecDepth 100000
namespace Sgn
open PySem PyProof.Rows
/-- the letters from a to z, as numbers -/
def abc : List Nat := (List.range 26).map (· + 97)
/-- a text's signs by the three questions -/
def signB (z : Str) : Bool := PySem.Txt.isascii z && (PySem.Txt.isalpha z && PySem.Txt.islower z)
theorem one : ∀ c, c < 128 → (Unicode.isAlpha c && !(Unicode.isUpper c || Unicode.isTitle c)) = decide (c ∈ abc) := by decide +kernel
theorem low : ∀ c, c < 128 → c ∈ abc → Unicode.isLower c = true := by decide +kernel
theorem below : ∀ c ∈ abc, c < 128 := by decide +kernel
theorem all_at {z : Str} {f : Nat → Bool} (h : z.cps.all f = true) {c : Nat} (hc : c ∈ z.cps.toList) : f c = true := by
  rw [← Array.all_toList] at h
  exact List.all_eq_true.mp h c hc
theorem signs_all {z : Str} (h : ∀ c ∈ z.cps.toList, c ∈ abc) (n : 1 ≤ z.length) : signB z = true := by
  have a1 : PySem.Txt.isascii z = true := by
    unfold PySem.Txt.isascii
    rw [← Array.all_toList, List.all_eq_true]
    exact fun c hc => decide_eq_true (below c (h c hc))
  have o := fun c (hc : c ∈ z.cps.toList) => (one c (below c (h c hc))).trans (decide_eq_true (h c hc))
  have a2 : PySem.Txt.isalpha z = true := by
    unfold PySem.Txt.isalpha
    rw [Bool.and_eq_true, ← Array.all_toList, List.all_eq_true]
    exact ⟨decide_eq_true (by omega), fun c hc => (Bool.and_eq_true _ _ ▸ o c hc : _ ∧ _).1⟩
  have a3 : PySem.Txt.islower z = true := by
    unfold PySem.Txt.islower
    rw [Bool.and_eq_true, ← Array.any_toList, ← Array.any_toList, List.any_eq_true]
    have hl : 0 < z.cps.toList.length := by rw [Array.length_toList]; exact n
    refine ⟨⟨z.cps.toList[0], List.getElem_mem hl, low _ (below _ (h _ (List.getElem_mem hl))) (h _ (List.getElem_mem hl))⟩, ?_⟩
    rw [Bool.not_eq_true', List.any_eq_false]
    intro c hc q
    have := (Bool.and_eq_true _ _ ▸ o c hc : _ ∧ _).2
    rw [q] at this
    cases this
  unfold signB
  rw [a1, a2, a3]; rfl
theorem signs_in {z : Str} (h : signB z = true) : ∀ c ∈ z.cps.toList, c ∈ abc := by
  intro c hc
  have h1 : PySem.Txt.isascii z = true := (Bool.and_eq_true _ _ ▸ h : _ ∧ _).1
  have h2 : (PySem.Txt.isalpha z && PySem.Txt.islower z) = true := (Bool.and_eq_true _ _ ▸ h : _ ∧ _).2
  have h3 : PySem.Txt.isalpha z = true := (Bool.and_eq_true _ _ ▸ h2 : _ ∧ _).1
  have h4 : PySem.Txt.islower z = true := (Bool.and_eq_true _ _ ▸ h2 : _ ∧ _).2
  have l : c < 128 := of_decide_eq_true (all_at h1 hc)
  have h5 : z.cps.all Unicode.isAlpha = true := (Bool.and_eq_true _ _ ▸ h3 : _ ∧ _).2
  have h6 : (!z.cps.any fun c => Unicode.isUpper c || Unicode.isTitle c) = true := (Bool.and_eq_true _ _ ▸ h4 : _ ∧ _).2
  have h7 : (Unicode.isUpper c || Unicode.isTitle c) = false := by
    rw [Bool.not_eq_true', ← Array.any_toList, List.any_eq_false] at h6
    exact Bool.eq_false_iff.mpr (h6 c hc)
  have := one c l
  rw [all_at h5 hc, h7] at this
  exact of_decide_eq_true this.symm
/-- the same, sign by sign -/
theorem signs_eq {z : Str} (n : 1 ≤ z.length) : signB z = ((List.range z.cps.size).map fun i => decide (z.cps.getD i 0 ∈ abc)).all id := by
  have at' : ∀ i, i < z.cps.size → z.cps.getD i 0 ∈ z.cps.toList := fun i hi => by
    rw [Array.getD_eq_getD_getElem?, Array.getElem?_eq_getElem hi]
    exact Array.getElem_mem_toList hi
  by_cases h : ∀ c ∈ z.cps.toList, c ∈ abc
  · rw [signs_all h n]
    symm
    rw [List.all_eq_true]
    intro b hb
    obtain ⟨i, hi, rfl⟩ := List.mem_map.mp hb
    exact decide_eq_true (h _ (at' i (List.mem_range.mp hi)))
  · have e : signB z = false := Bool.eq_false_iff.mpr fun q => h (signs_in q)
    rw [e]
    symm
    rw [Bool.eq_false_iff]
    intro q
    rw [List.all_eq_true] at q
    refine h fun c hc => ?_
    obtain ⟨i, hi, e⟩ := List.getElem_of_mem hc
    rw [Array.length_toList] at hi
    have := q _ (List.mem_map.mpr ⟨i, List.mem_range.mpr hi, rfl⟩)
    have := of_decide_eq_true this
    rw [Array.getD_eq_getD_getElem?, Array.getElem?_eq_getElem hi] at this
    rw [← e]
    exact this
end Sgn

set_option Elab.async false
set_option linter.all false
set_option maxRecDepth 100000
set_option maxHeartbeats 4000000
namespace K10
open PySem L2 Lay
def top (i : Nat) : Stmt := PySem.Challenge.pw_twoeach_k10_numbers_names_and_errors.main.body.getD i (.Pass ⟨0, 0, 0, 0⟩)
abbrev s_is_integer : Stmt := top 2
theorem sc_is_integer : FnScope ["value"] ["value"] (defScope s_is_integer) := ⟨rfl, rfl, rfl, by decide +kernel, rfl, by decide +kernel, by decide +kernel⟩
abbrev s_is_count : Stmt := top 3
theorem sc_is_count : FnScope ["value"] ["value"] (defScope s_is_count) := ⟨rfl, rfl, rfl, by decide +kernel, rfl, by decide +kernel, by decide +kernel⟩
abbrev s_is_name : Stmt := top 4
theorem sc_is_name : FnScope ["value"] ["value"] (defScope s_is_name) := ⟨rfl, rfl, rfl, by decide +kernel, rfl, by decide +kernel, by decide +kernel⟩
abbrev s_l_pot : Stmt := top 44
theorem sc_l_pot : FnScope ["_law_script", "_law_k", "_law_cell"] ["_law_script", "_law_k"] (defScope s_l_pot) := ⟨rfl, rfl, rfl, by decide +kernel, rfl, by decide +kernel, by decide +kernel⟩
abbrev s_l_draw : Stmt := top 45
theorem sc_l_draw : FnScope ["_law_pot_here", "_law_many", "_law_digit"] ["_law_pot_here", "_law_many"] (defScope s_l_draw) := ⟨rfl, rfl, rfl, by decide +kernel, rfl, by decide +kernel, by decide +kernel⟩
abbrev s_l_among : Stmt := top 46
theorem sc_l_among : FnScope ["_law_pot_here", "_law_some"] ["_law_pot_here", "_law_some"] (defScope s_l_among) := ⟨rfl, rfl, rfl, by decide +kernel, rfl, by decide +kernel, by decide +kernel⟩
abbrev s_l_thing : Stmt := top 47
theorem sc_l_thing : FnScope ["_law_pot_here", "_law_way", "_law_number", "_law_signs", "_law_word", "_law_is_word", "_law_some", "_law_turn", "_law_sign"] ["_law_pot_here"] (defScope s_l_thing) := ⟨rfl, rfl, rfl, by decide +kernel, rfl, by decide +kernel, by decide +kernel⟩
abbrev s_l_basics_right : Stmt := top 48
theorem sc_l_basics_right : FnScope ["_law_pot_here", "_law_thing_here", "_law_due_here", "_law_turn", "_law_told", "_law_named"] ["_law_pot_here"] (defScope s_l_basics_right) := ⟨rfl, rfl, rfl, by decide +kernel, rfl, by decide +kernel, by decide +kernel⟩
abbrev s_l_singles : Stmt := top 49
theorem sc_l_singles : FnScope ["_law_thing_here", "_law_found", "_law_made"] ["_law_thing_here"] (defScope s_l_singles) := ⟨rfl, rfl, rfl, by decide +kernel, rfl, by decide +kernel, by decide +kernel⟩
abbrev s_l_branches : Stmt := top 50
theorem sc_l_branches : FnScope ["_law_made", "_law_found", "_law_ahead"] ["_law_made"] (defScope s_l_branches) := ⟨rfl, rfl, rfl, by decide +kernel, rfl, by decide +kernel, by decide +kernel⟩
abbrev s_l_due : Stmt := top 51
theorem sc_l_due : FnScope ["_law_branch", "_law_place"] ["_law_branch"] (defScope s_l_due) := ⟨rfl, rfl, rfl, by decide +kernel, rfl, by decide +kernel, by decide +kernel⟩
abbrev s_l_many_own : Stmt := top 52
theorem sc_l_many_own : FnScope ["_law_made", "_law_found", "_law_own"] ["_law_made"] (defScope s_l_many_own) := ⟨rfl, rfl, rfl, by decide +kernel, rfl, by decide +kernel, by decide +kernel⟩
abbrev s_l_errors_right : Stmt := top 53
theorem sc_l_errors_right : FnScope ["_law_pot_here", "_law_thing_here", "_law_mate", "_law_rows", "_law_made", "_law_parts", "_law_due_here", "_law_branch", "_law_part"] ["_law_pot_here"] (defScope s_l_errors_right) := ⟨rfl, rfl, rfl, by decide +kernel, rfl, by decide +kernel, by decide +kernel⟩
abbrev s_law : Stmt := top 54
theorem sc_law : FnScope ["_law_script", "_law_k", "_law_pot_here", "_law_turn"] ["_law_script"] (defScope s_law) := ⟨rfl, rfl, rfl, by decide +kernel, rfl, by decide +kernel, by decide +kernel⟩
def leafN (i : Nat) : Str := ([("InvalidEntries" : Str), ("InvalidNames" : Str), ("InvalidKinds" : Str), ("InvalidRenaming" : Str), ("InvalidSize" : Str), ("InvalidLines" : Str), ("InvalidSet" : Str), ("InvalidChoice" : Str), ("InvalidMarks" : Str), ("InvalidHeight" : Str), ("InvalidPeriod" : Str), ("InvalidPartners" : Str), ("InvalidColumn" : Str), ("InvalidState" : Str), ("InvalidLength" : Str), ("InvalidText" : Str), ("InvalidClaim" : Str), ("InvalidWay" : Str), ("InvalidCommand" : Str), ("UnknownName" : Str), ("UnknownKind" : Str), ("UnknownCell" : Str), ("UnknownLine" : Str), ("KindTaken" : Str), ("SameKinds" : Str), ("NotFlat" : Str), ("OtherPiece" : Str), ("Marked" : Str), ("WrongTurn" : Str), ("NoAnswer" : Str), ("NothingToUndo" : Str), ("CommandFailed" : Str), ("TooMany" : Str)] : List Str).getD i ""
def brN (i : Nat) : Str := ([("LineError" : Str), ("MissingError" : Str), ("StateError" : Str), ("LimitError" : Str)] : List Str).getD i ""
/-- the branch of each -/
def brI (i : Nat) : Nat := ([0, 0, 0, 0, 0, 0, 0, 0, 0, 0, 0, 0, 0, 0, 0, 0, 0, 0, 0, 1, 1, 1, 1, 2, 2, 2, 2, 2, 2, 2, 2, 2, 3] : List Nat).getD i 9
def bT (j : Nat) : String := (["ValueError", "LookupError", "RuntimeError", "ArithmeticError"] : List String).getD j ""
structure Txt (K : PySem.W.Frag) (mg : Str → Option Value) : Prop where
  n_len : mg "len" = none
  n_int : mg "int" = none
  n_abs : mg "abs" = none
  n_max : mg "max" = none
  n_divmod : mg "divmod" = none
  n_isinstance : mg "isinstance" = none
  n_bool : mg "bool" = none
  n_str : mg "str" = none
  n_repr : mg "repr" = none
  n_range : mg "range" = none
  n_all : mg "all" = none
  n_sum : mg "sum" = none
  n_min : mg "min" = none
  n_ValueError : mg "ValueError" = none
  n_LookupError : mg "LookupError" = none
  n_RuntimeError : mg "RuntimeError" = none
  n_ArithmeticError : mg "ArithmeticError" = none
  c_MOST_LETTERS : ∃ u, mg "MOST_LETTERS" = some u ∧ RelV (.int 8) u
  S_is_integer : Src K mg "is_integer" s_is_integer ["value"]
  S_is_count : Src K mg "is_count" s_is_count ["value"]
  S_is_name : Src K mg "is_name" s_is_name ["value"]
  S_l_pot : Src K mg "_law_pot" s_l_pot ["_law_script", "_law_k"]
  S_l_draw : Src K mg "_law_draw" s_l_draw ["_law_pot_here", "_law_many"]
  S_l_among : Src K mg "_law_among" s_l_among ["_law_pot_here", "_law_some"]
  S_l_thing : Src K mg "_law_thing" s_l_thing ["_law_pot_here"]
  S_l_basics_right : Src K mg "_law_basics_right" s_l_basics_right ["_law_pot_here"]
  S_l_singles : Src K mg "_law_singles" s_l_singles ["_law_thing_here"]
  S_l_branches : Src K mg "_law_branches" s_l_branches ["_law_made"]
  S_l_due : Src K mg "_law_due" s_l_due ["_law_branch"]
  S_l_many_own : Src K mg "_law_many_own" s_l_many_own ["_law_made"]
  S_l_errors_right : Src K mg "_law_errors_right" s_l_errors_right ["_law_pot_here"]
  S_law : Src K mg "law" s_law ["_law_script"]
  g_LineError : mg "LineError" = some (.ref (He.ga K "LineError"))
  g_MissingError : mg "MissingError" = some (.ref (He.ga K "MissingError"))
  g_StateError : mg "StateError" = some (.ref (He.ga K "StateError"))
  g_LimitError : mg "LimitError" = some (.ref (He.ga K "LimitError"))
  g_InvalidEntries : mg "InvalidEntries" = some (.ref (He.ga K "InvalidEntries"))
  g_InvalidNames : mg "InvalidNames" = some (.ref (He.ga K "InvalidNames"))
  g_InvalidKinds : mg "InvalidKinds" = some (.ref (He.ga K "InvalidKinds"))
  g_InvalidRenaming : mg "InvalidRenaming" = some (.ref (He.ga K "InvalidRenaming"))
  g_InvalidSize : mg "InvalidSize" = some (.ref (He.ga K "InvalidSize"))
  g_InvalidLines : mg "InvalidLines" = some (.ref (He.ga K "InvalidLines"))
  g_InvalidSet : mg "InvalidSet" = some (.ref (He.ga K "InvalidSet"))
  g_InvalidChoice : mg "InvalidChoice" = some (.ref (He.ga K "InvalidChoice"))
  g_InvalidMarks : mg "InvalidMarks" = some (.ref (He.ga K "InvalidMarks"))
  g_InvalidHeight : mg "InvalidHeight" = some (.ref (He.ga K "InvalidHeight"))
  g_InvalidPeriod : mg "InvalidPeriod" = some (.ref (He.ga K "InvalidPeriod"))
  g_InvalidPartners : mg "InvalidPartners" = some (.ref (He.ga K "InvalidPartners"))
  g_InvalidColumn : mg "InvalidColumn" = some (.ref (He.ga K "InvalidColumn"))
  g_InvalidState : mg "InvalidState" = some (.ref (He.ga K "InvalidState"))
  g_InvalidLength : mg "InvalidLength" = some (.ref (He.ga K "InvalidLength"))
  g_InvalidText : mg "InvalidText" = some (.ref (He.ga K "InvalidText"))
  g_InvalidClaim : mg "InvalidClaim" = some (.ref (He.ga K "InvalidClaim"))
  g_InvalidWay : mg "InvalidWay" = some (.ref (He.ga K "InvalidWay"))
  g_InvalidCommand : mg "InvalidCommand" = some (.ref (He.ga K "InvalidCommand"))
  g_UnknownName : mg "UnknownName" = some (.ref (He.ga K "UnknownName"))
  g_UnknownKind : mg "UnknownKind" = some (.ref (He.ga K "UnknownKind"))
  g_UnknownCell : mg "UnknownCell" = some (.ref (He.ga K "UnknownCell"))
  g_UnknownLine : mg "UnknownLine" = some (.ref (He.ga K "UnknownLine"))
  g_KindTaken : mg "KindTaken" = some (.ref (He.ga K "KindTaken"))
  g_SameKinds : mg "SameKinds" = some (.ref (He.ga K "SameKinds"))
  g_NotFlat : mg "NotFlat" = some (.ref (He.ga K "NotFlat"))
  g_OtherPiece : mg "OtherPiece" = some (.ref (He.ga K "OtherPiece"))
  g_Marked : mg "Marked" = some (.ref (He.ga K "Marked"))
  g_WrongTurn : mg "WrongTurn" = some (.ref (He.ga K "WrongTurn"))
  g_NoAnswer : mg "NoAnswer" = some (.ref (He.ga K "NoAnswer"))
  g_NothingToUndo : mg "NothingToUndo" = some (.ref (He.ga K "NothingToUndo"))
  g_CommandFailed : mg "CommandFailed" = some (.ref (He.ga K "CommandFailed"))
  g_TooMany : mg "TooMany" = some (.ref (He.ga K "TooMany"))
  e_InvalidEntries : ∀ P w base, Exv.Ec P w K mg base "InvalidEntries" (He.ga K "InvalidEntries") "ValueError.__new__" [.type "ValueError", .type "Exception", .type "BaseException", .type "object"] ["self", "position"] 1 (Exv.mk1 "position")
  no_InvalidEntries_position : PySem.W.findIn K (.ref (He.ga K "InvalidEntries")) "position" = some none
  e_InvalidNames : ∀ P w base, Exv.Ec P w K mg base "InvalidNames" (He.ga K "InvalidNames") "ValueError.__new__" [.type "ValueError", .type "Exception", .type "BaseException", .type "object"] ["self", "position"] 1 (Exv.mk1 "position")
  no_InvalidNames_position : PySem.W.findIn K (.ref (He.ga K "InvalidNames")) "position" = some none
  e_InvalidKinds : ∀ P w base, Exv.Ec P w K mg base "InvalidKinds" (He.ga K "InvalidKinds") "ValueError.__new__" [.type "ValueError", .type "Exception", .type "BaseException", .type "object"] ["self", "value"] 1 (Exv.mk1 "value")
  no_InvalidKinds_value : PySem.W.findIn K (.ref (He.ga K "InvalidKinds")) "value" = some none
  e_InvalidRenaming : ∀ P w base, Exv.Ec P w K mg base "InvalidRenaming" (He.ga K "InvalidRenaming") "ValueError.__new__" [.type "ValueError", .type "Exception", .type "BaseException", .type "object"] ["self", "value"] 1 (Exv.mk1 "value")
  no_InvalidRenaming_value : PySem.W.findIn K (.ref (He.ga K "InvalidRenaming")) "value" = some none
  e_InvalidSize : ∀ P w base, Exv.Ec P w K mg base "InvalidSize" (He.ga K "InvalidSize") "ValueError.__new__" [.type "ValueError", .type "Exception", .type "BaseException", .type "object"] ["self", "value"] 1 (Exv.mk1 "value")
  no_InvalidSize_value : PySem.W.findIn K (.ref (He.ga K "InvalidSize")) "value" = some none
  e_InvalidLines : ∀ P w base, Exv.Ec P w K mg base "InvalidLines" (He.ga K "InvalidLines") "ValueError.__new__" [.type "ValueError", .type "Exception", .type "BaseException", .type "object"] ["self", "position"] 1 (Exv.mk1 "position")
  no_InvalidLines_position : PySem.W.findIn K (.ref (He.ga K "InvalidLines")) "position" = some none
  e_InvalidSet : ∀ P w base, Exv.Ec P w K mg base "InvalidSet" (He.ga K "InvalidSet") "ValueError.__new__" [.type "ValueError", .type "Exception", .type "BaseException", .type "object"] ["self", "position"] 1 (Exv.mk1 "position")
  no_InvalidSet_position : PySem.W.findIn K (.ref (He.ga K "InvalidSet")) "position" = some none
  e_InvalidChoice : ∀ P w base, Exv.Ec P w K mg base "InvalidChoice" (He.ga K "InvalidChoice") "ValueError.__new__" [.type "ValueError", .type "Exception", .type "BaseException", .type "object"] ["self", "value"] 1 (Exv.mk1 "value")
  no_InvalidChoice_value : PySem.W.findIn K (.ref (He.ga K "InvalidChoice")) "value" = some none
  e_InvalidMarks : ∀ P w base, Exv.Ec P w K mg base "InvalidMarks" (He.ga K "InvalidMarks") "ValueError.__new__" [.type "ValueError", .type "Exception", .type "BaseException", .type "object"] ["self", "position"] 1 (Exv.mk1 "position")
  no_InvalidMarks_position : PySem.W.findIn K (.ref (He.ga K "InvalidMarks")) "position" = some none
  e_InvalidHeight : ∀ P w base, Exv.Ec P w K mg base "InvalidHeight" (He.ga K "InvalidHeight") "ValueError.__new__" [.type "ValueError", .type "Exception", .type "BaseException", .type "object"] ["self", "value"] 1 (Exv.mk1 "value")
  no_InvalidHeight_value : PySem.W.findIn K (.ref (He.ga K "InvalidHeight")) "value" = some none
  e_InvalidPeriod : ∀ P w base, Exv.Ec P w K mg base "InvalidPeriod" (He.ga K "InvalidPeriod") "ValueError.__new__" [.type "ValueError", .type "Exception", .type "BaseException", .type "object"] ["self", "value"] 1 (Exv.mk1 "value")
  no_InvalidPeriod_value : PySem.W.findIn K (.ref (He.ga K "InvalidPeriod")) "value" = some none
  e_InvalidPartners : ∀ P w base, Exv.Ec P w K mg base "InvalidPartners" (He.ga K "InvalidPartners") "ValueError.__new__" [.type "ValueError", .type "Exception", .type "BaseException", .type "object"] ["self", "value"] 1 (Exv.mk1 "value")
  no_InvalidPartners_value : PySem.W.findIn K (.ref (He.ga K "InvalidPartners")) "value" = some none
  e_InvalidColumn : ∀ P w base, Exv.Ec P w K mg base "InvalidColumn" (He.ga K "InvalidColumn") "ValueError.__new__" [.type "ValueError", .type "Exception", .type "BaseException", .type "object"] ["self", "value"] 1 (Exv.mk1 "value")
  no_InvalidColumn_value : PySem.W.findIn K (.ref (He.ga K "InvalidColumn")) "value" = some none
  e_InvalidState : ∀ P w base, Exv.Ec P w K mg base "InvalidState" (He.ga K "InvalidState") "ValueError.__new__" [.type "ValueError", .type "Exception", .type "BaseException", .type "object"] ["self", "value"] 1 (Exv.mk1 "value")
  no_InvalidState_value : PySem.W.findIn K (.ref (He.ga K "InvalidState")) "value" = some none
  e_InvalidLength : ∀ P w base, Exv.Ec P w K mg base "InvalidLength" (He.ga K "InvalidLength") "ValueError.__new__" [.type "ValueError", .type "Exception", .type "BaseException", .type "object"] ["self", "value"] 1 (Exv.mk1 "value")
  no_InvalidLength_value : PySem.W.findIn K (.ref (He.ga K "InvalidLength")) "value" = some none
  e_InvalidText : ∀ P w base, Exv.Ec P w K mg base "InvalidText" (He.ga K "InvalidText") "ValueError.__new__" [.type "ValueError", .type "Exception", .type "BaseException", .type "object"] ["self", "line"] 1 (Exv.mk1 "line")
  no_InvalidText_line : PySem.W.findIn K (.ref (He.ga K "InvalidText")) "line" = some none
  e_InvalidClaim : ∀ P w base, Exv.Ec P w K mg base "InvalidClaim" (He.ga K "InvalidClaim") "ValueError.__new__" [.type "ValueError", .type "Exception", .type "BaseException", .type "object"] ["self", "value"] 1 (Exv.mk1 "value")
  no_InvalidClaim_value : PySem.W.findIn K (.ref (He.ga K "InvalidClaim")) "value" = some none
  e_InvalidWay : ∀ P w base, Exv.Ec P w K mg base "InvalidWay" (He.ga K "InvalidWay") "ValueError.__new__" [.type "ValueError", .type "Exception", .type "BaseException", .type "object"] ["self", "value"] 1 (Exv.mk1 "value")
  no_InvalidWay_value : PySem.W.findIn K (.ref (He.ga K "InvalidWay")) "value" = some none
  e_InvalidCommand : ∀ P w base, Exv.Ec P w K mg base "InvalidCommand" (He.ga K "InvalidCommand") "ValueError.__new__" [.type "ValueError", .type "Exception", .type "BaseException", .type "object"] ["self", "value"] 1 (Exv.mk1 "value")
  no_InvalidCommand_value : PySem.W.findIn K (.ref (He.ga K "InvalidCommand")) "value" = some none
  e_UnknownName : ∀ P w base, Exv.Ec P w K mg base "UnknownName" (He.ga K "UnknownName") "LookupError.__new__" [.type "LookupError", .type "Exception", .type "BaseException", .type "object"] ["self", "value"] 1 (Exv.mk1 "value")
  no_UnknownName_value : PySem.W.findIn K (.ref (He.ga K "UnknownName")) "value" = some none
  e_UnknownKind : ∀ P w base, Exv.Ec P w K mg base "UnknownKind" (He.ga K "UnknownKind") "LookupError.__new__" [.type "LookupError", .type "Exception", .type "BaseException", .type "object"] ["self", "value"] 1 (Exv.mk1 "value")
  no_UnknownKind_value : PySem.W.findIn K (.ref (He.ga K "UnknownKind")) "value" = some none
  e_UnknownCell : ∀ P w base, Exv.Ec P w K mg base "UnknownCell" (He.ga K "UnknownCell") "LookupError.__new__" [.type "LookupError", .type "Exception", .type "BaseException", .type "object"] ["self", "value"] 1 (Exv.mk1 "value")
  no_UnknownCell_value : PySem.W.findIn K (.ref (He.ga K "UnknownCell")) "value" = some none
  e_UnknownLine : ∀ P w base, Exv.Ec P w K mg base "UnknownLine" (He.ga K "UnknownLine") "LookupError.__new__" [.type "LookupError", .type "Exception", .type "BaseException", .type "object"] ["self", "value"] 1 (Exv.mk1 "value")
  no_UnknownLine_value : PySem.W.findIn K (.ref (He.ga K "UnknownLine")) "value" = some none
  e_KindTaken : ∀ P w base, Exv.Ec P w K mg base "KindTaken" (He.ga K "KindTaken") "RuntimeError.__new__" [.type "RuntimeError", .type "Exception", .type "BaseException", .type "object"] ["self", "value"] 1 (Exv.mk1 "value")
  no_KindTaken_value : PySem.W.findIn K (.ref (He.ga K "KindTaken")) "value" = some none
  e_SameKinds : ∀ P w base, Exv.Ec P w K mg base "SameKinds" (He.ga K "SameKinds") "RuntimeError.__new__" [.type "RuntimeError", .type "Exception", .type "BaseException", .type "object"] ["self", "one", "other"] 2 (Exv.mk2 "one" "other")
  no_SameKinds_one : PySem.W.findIn K (.ref (He.ga K "SameKinds")) "one" = some none
  no_SameKinds_other : PySem.W.findIn K (.ref (He.ga K "SameKinds")) "other" = some none
  e_NotFlat : ∀ P w base, Exv.Ec P w K mg base "NotFlat" (He.ga K "NotFlat") "RuntimeError.__new__" [.type "RuntimeError", .type "Exception", .type "BaseException", .type "object"] ["self", "value"] 1 (Exv.mk1 "value")
  no_NotFlat_value : PySem.W.findIn K (.ref (He.ga K "NotFlat")) "value" = some none
  e_OtherPiece : ∀ P w base, Exv.Ec P w K mg base "OtherPiece" (He.ga K "OtherPiece") "RuntimeError.__new__" [.type "RuntimeError", .type "Exception", .type "BaseException", .type "object"] ["self", "one", "other"] 2 (Exv.mk2 "one" "other")
  no_OtherPiece_one : PySem.W.findIn K (.ref (He.ga K "OtherPiece")) "one" = some none
  no_OtherPiece_other : PySem.W.findIn K (.ref (He.ga K "OtherPiece")) "other" = some none
  e_Marked : ∀ P w base, Exv.Ec P w K mg base "Marked" (He.ga K "Marked") "RuntimeError.__new__" [.type "RuntimeError", .type "Exception", .type "BaseException", .type "object"] ["self", "value"] 1 (Exv.mk1 "value")
  no_Marked_value : PySem.W.findIn K (.ref (He.ga K "Marked")) "value" = some none
  e_WrongTurn : ∀ P w base, Exv.Ec P w K mg base "WrongTurn" (He.ga K "WrongTurn") "RuntimeError.__new__" [.type "RuntimeError", .type "Exception", .type "BaseException", .type "object"] ["self", "value"] 1 (Exv.mk1 "value")
  no_WrongTurn_value : PySem.W.findIn K (.ref (He.ga K "WrongTurn")) "value" = some none
  e_NoAnswer : ∀ P w base, Exv.Ec P w K mg base "NoAnswer" (He.ga K "NoAnswer") "RuntimeError.__new__" [.type "RuntimeError", .type "Exception", .type "BaseException", .type "object"] ["self"] 0 Exv.mk0
  e_NothingToUndo : ∀ P w base, Exv.Ec P w K mg base "NothingToUndo" (He.ga K "NothingToUndo") "RuntimeError.__new__" [.type "RuntimeError", .type "Exception", .type "BaseException", .type "object"] ["self"] 0 Exv.mk0
  e_CommandFailed : ∀ P w base, Exv.Ec P w K mg base "CommandFailed" (He.ga K "CommandFailed") "RuntimeError.__new__" [.type "RuntimeError", .type "Exception", .type "BaseException", .type "object"] ["self", "position"] 1 (Exv.mk1 "position")
  no_CommandFailed_position : PySem.W.findIn K (.ref (He.ga K "CommandFailed")) "position" = some none
  e_TooMany : ∀ P w base, Exv.Ec P w K mg base "TooMany" (He.ga K "TooMany") "ArithmeticError.__new__" [.type "ArithmeticError", .type "Exception", .type "BaseException", .type "object"] ["self", "what", "limit"] 2 (Exv.mk2 "what" "limit")
  no_TooMany_what : PySem.W.findIn K (.ref (He.ga K "TooMany")) "what" = some none
  no_TooMany_limit : PySem.W.findIn K (.ref (He.ga K "TooMany")) "limit" = some none
  gs : Exv.Gs K
  kL : ∀ i j, i < 33 → j < 33 → PySem.W.kitOne K (.ref (He.ga K (leafN i))) (.ref (He.ga K (leafN j))) = some (i == j)
  kB : ∀ i j, i < 33 → j < 4 → PySem.W.kitOne K (.ref (He.ga K (leafN i))) (.ref (He.ga K (brN j))) = some (brI i == j)
  kT : ∀ i j, i < 33 → j < 4 → PySem.W.kitOne K (.ref (He.ga K (leafN i))) (.type (bT j)) = some (brI i == j)
  kI : PySem.W.kitOne K (.ref (He.ga K "TooMany")) (.type "int") = some false
  kO : PySem.W.kitOne K (.ref (He.ga K "TooMany")) (.type "bool") = some false
  kS : PySem.W.kitOne K (.ref (He.ga K "TooMany")) (.type "str") = some false
  cr : Rp.ClR K (He.ga K "TooMany") "TooMany"
local macro_rules | `(tactic| walk_at "ne") => `(tactic| first | assumption | (apply Ne.symm; assumption) | exact ne_of_none (by walk_at "look") (by assumption) | exact (ne_of_none (by walk_at "look") (by assumption)).symm)
local macro_rules | `(tactic| walk_at "look") => `(tactic| first | assumption | exact upd_same | (refine Eq.trans (upd_ne ?_) ?_; walk_at "ne"; walk_at "look"))
local macro_rules | `(tactic| walk_at "rds") => `(tactic| first | rfl | assumption | walk_at "look" | exact SqL.of (by walk_at "look") | exact SqT.of (by walk_at "look") | exact Or.inl (SqL.of (by walk_at "look")) | exact Or.inl (by assumption) | decide | omega | exact Nat.le_of_ble_eq_true rfl | exact Or.inr ⟨by decide, by decide⟩ | exact Or.inl ⟨by omega, by omega⟩ | exact ⟨by decide, by decide⟩)
local macro_rules | `(tactic| walk_at "rd1") => `(tactic| first | (apply Exists.intro) | (refine And.intro ?_ ?_; walk_at "rds") | (refine Or.inl ?_; apply Exists.intro; refine And.intro ?_ ?_; rfl))
local macro_rules | `(tactic| walk_at "rd") => `(tactic| repeat walk_at "rd1")
section
variable {P : Program} {w : World} {K : PySem.W.Frag} {mg : Str → Option Value} {base : Heap}
theorem d_draw (T : Txt K mg) : Df P w K mg base 1 "_law_draw" ["_law_pot_here", "_law_many"] spDraw := by
  refine draw_up (T.S_l_draw.by sc_l_draw (fun vs H Q E h => ?_) (fun f cdv A outer s H vs Q E hr hgd h => ?_)) rfl
  · obtain ⟨p, m, a, b, rfl, _⟩ := h; rfl
  · obtain ⟨p, m, a, b, rfl, hp, b0, b1, m0, m1, k⟩ := h
    refine ⟨_, (pss_cons (ps_if (pt_cmpR op_gt (pe_ix ix_list (pv 0) pe_int (fun _ _ => rfl)) pe_int (nomark _)) (pss_cons (ps_asg (pe_callB call_divmodW (by rfl) T.n_divmod (by decide +kernel) (pa_cons (pe_ix ix_list (pv 0) pe_int (fun _ _ => rfl)) (pa_cons (pv 1) pa_nil))) (pg_tup rfl (pgs_cons (pg_sub (pv 0) pe_int set_list) (pgs_cons (pg_name (i := 2) sc_l_draw.nd rfl (by first | exact Or.inl rfl | exact Or.inr rfl)) pgs_nil))))
      (pss_one (ps_ret (pv 2)))) pss_nil)
      (pss_cons (ps_asg (pe_op op_mod (pe_callTy call_int1 (by rfl) T.n_int (by decide +kernel) (pa_cons (pe_op op_add (pe_op op_mul (pe_ix ix_list (pv 0) pe_int (fun _ _ => rfl)) pe_int) pe_int) pa_nil)) pe_int) (pg_sub (pv 0) pe_int set_list))
      (pss_one (ps_ret (pe_op op_mod (pe_callTy call_int1 (by rfl) T.n_int (by decide +kernel) (pa_cons (pe_op op_fdiv (pe_op op_mod (pe_callTy call_int1 (by rfl) T.n_int (by decide +kernel) (pa_cons (pe_op op_mul (pe_ix ix_list (pv 0) pe_int (fun _ _ => rfl)) (pe_ix ix_list (pv 0) pe_int (fun _ _ => rfl))) pa_nil)) pe_int) pe_int) pa_nil)) (pv 1)))))), ?_⟩
    walk_at "rd"
    refine ite2 (fun _ => ?_) (fun _ => ?_)
    · walk_at "rd"
      refine And.intro ⟨m0, divs_ok m0 m1⟩ fun t ht => ?_
      walk_at "rd"
      refine k _ (a / m) b _ (Int.emod_nonneg _ (by omega)) (Int.emod_lt_of_pos _ m0) b0 b1 (fun q o n e => ?_) upd_same
      rw [upd_ne n, upd_ne (ne_of_none e ht)]; exact e
    · walk_at "rd"
      refine k _ a ((b * 48271 + 12211) % 2147483587) _ (Int.emod_nonneg _ (by omega)) (Int.emod_lt_of_pos _ m0) (Int.emod_nonneg _ (by decide)) (Int.lt_trans (Int.emod_lt_of_pos _ (by decide)) (by decide)) (fun q o n e => ?_) upd_same
      rw [upd_ne n]; exact e

theorem d_pot (T : Txt K mg) : Df P w K mg base 1 "_law_pot" ["_law_script", "_law_k"] (spPot K) := by
  refine pot_up (T.S_l_pot.by sc_l_pot (fun vs H Q E h => ?_) (fun f cdv A outer s H vs Q E hr hgd h => ?_)) rfl
  · obtain ⟨s, ns, i, rfl, _⟩ := h; rfl
  · obtain ⟨s, ns, i, rfl, hs, l1, i1, k⟩ := h
    refine ⟨_, (pss_cons (ps_set (i := 2) sc_l_pot.nd rfl (by first | exact Or.inl rfl | exact Or.inr rfl) (pe_op op_add (pe_op op_mul pe_int (pv 1)) pe_int))
      (pss_cons (ps_if (pt_cmpR op_lt (pv 1) (pe_callB call_len_seq (by rfl) T.n_len PySem.boot_len (pa_cons (pv 0) pa_nil)) (nomark _)) (pss_one (ps_set (i := 2) sc_l_pot.nd rfl (by first | exact Or.inl rfl | exact Or.inr rfl) (pe_callB call_abs (by rfl) T.n_abs (by decide +kernel) (pa_cons (pe_ix ix_list (pv 0) (pv 1) (fun _ _ => rfl)) pa_nil)))) pss_nil)
      (pss_one (ps_ret (pe_lst (pa_cons (pe_callB (call_max2 rfl) (by rfl) T.n_max (by decide +kernel) (pa_cons pe_int (pa_cons (pe_op op_sub (pv 2) (pe_op op_pow pe_int pe_int)) pa_nil))) (pa_cons (pe_op op_add (pe_op op_mod (pe_callTy call_int1 (by rfl) T.n_int (by decide +kernel) (pa_cons (pe_op op_add (pe_op op_add (pe_op op_mul (pe_op op_mod (pe_callTy call_int1 (by rfl) T.n_int (by decide +kernel) (pa_cons (pv 2) pa_nil)) pe_int) pe_int) (pe_op op_mul pe_int (pv 1))) pe_int) pa_nil)) pe_int) pe_int) pa_nil))))))), ?_⟩
    walk_at "rd"
    refine ite2 (fun c => ?_) (fun c => ?_)
    · have hi : i < ns.length := by
        have z := of_decide_eq_true c
        rw [List.length_map] at z
        omega
      have hn : (ns.map V.int)[i]? = some (V.int ns[i]) := by rw [List.getElem?_map, List.getElem?_eq_getElem hi]; rfl
      walk_at "rd"
      refine And.intro (at_of rfl hn) ?_
      walk_at "rd"
      intro p np
      exact k _ _ p _ (by omega) (by omega) np (Same.new np) upd_same
    · walk_at "rd"
      intro p np
      exact k _ _ p _ (by omega) (by omega) np (Same.new np) upd_same

/-! an index of a list or a text by a draw -/
def spAmong (K : PySem.W.Frag) : Sp := fun vs H Q _ => ∃ (p : Addr) (x : V), vs = [.ref p, x] ∧ H p = some (PotO p) ∧
  ((∃ a xs, x = .ref a ∧ SqL K H a xs ∧ 0 < xs.length ∧ xs.length ≤ 100000 ∧ ∀ y H', y ∈ xs → L2.Same H H' → Q y H') ∨
   (∃ z : Str, x = .str z ∧ 0 < z.length ∧ z.length ≤ 100000 ∧ ∀ c H', c ∈ z.cps.toList → L2.Same H H' → Q (.str ⟨#[c]⟩) H'))
theorem d_among (T : Txt K mg) : Df P w K mg base 2 "_law_among" ["_law_pot_here", "_law_some"] (spAmong K) := by
  have D_l_draw := d_draw (P := P) (w := w) (base := base) T
  refine T.S_l_among.by sc_l_among (fun vs H Q E h => ?_) (fun f cdv A outer s H vs Q E hr hgd h => ?_)
  · obtain ⟨p, x, rfl, _⟩ := h; rfl
  · obtain ⟨p, x, rfl, hp, h⟩ := h
    rcases h with ⟨a, xs, rfl, ha, l0, l1, k⟩ | ⟨z, rfl, l0, l1, k⟩
    · refine ⟨_, (pss_one (ps_ret (pe_ix ix_seq (pv 1) (pe_own D_l_draw (hr.mono (by first | decide | omega)) hgd (pa_cons (pv 0) (pa_cons (pe_callB call_len (by rfl) T.n_len PySem.boot_len (pa_cons (pv 1) pa_nil)) pa_nil))) (fun _ _ => rfl)))), ?_⟩
      refine ⟨_, rfl, _, rfl, _, rfl, _, xs.length, rfl, .inl ⟨xs, ha, rfl⟩, ?_⟩
      walk_at "rd"
      intro d H' d0 d1 e
      have hd : d.toNat < xs.length := by omega
      refine .inl ⟨a, xs, d, _, rfl, rfl, e.seq ha, at_of (j := d.toNat) (by omega) (List.getElem?_eq_getElem hd), ?_⟩
      exact k _ H' (List.getElem_mem _) e
    · refine ⟨_, (pss_one (ps_ret (pe_ix ix_seq (pv 1) (pe_own D_l_draw (hr.mono (by first | decide | omega)) hgd (pa_cons (pv 0) (pa_cons (pe_callB call_len (by rfl) T.n_len PySem.boot_len (pa_cons (pv 1) pa_nil)) pa_nil))) (fun _ _ => rfl)))), ?_⟩
      refine ⟨_, rfl, _, rfl, _, rfl, _, z.length, rfl, ⟨Nat.le_trans l1 (by decide), rfl⟩, ?_⟩
      walk_at "rd"
      intro d H' d0 d1 e
      have hz : z.length = z.cps.toList.length := by simp [Str.length]
      have hd : d.toNat < z.cps.toList.length := by omega
      have g := List.getElem?_eq_getElem hd
      refine .inr (.inr ⟨z, d, z.cps.toList[d.toNat], rfl, rfl, Nat.le_trans l1 (by decide), ?_, k _ H' (List.getElem_mem _) e⟩)
      exact (congrArg (atI z.cps.toList) (show d = ((d.toNat : Nat) : Int) by omega)).trans (atI_nat g)
end
end K10

set_option Elab.async false
set_option linter.all false
set_option maxRecDepth 100000
set_option maxHeartbeats 4000000
namespace K10
open PySem L2 Lay
local macro_rules | `(tactic| walk_at "ne") => `(tactic| first | assumption | (apply Ne.symm; assumption) | exact ne_of_none (by walk_at "look") (by assumption) | exact (ne_of_none (by walk_at "look") (by assumption)).symm)
local macro_rules | `(tactic| walk_at "look") => `(tactic| first | assumption | exact upd_same | (refine Eq.trans (upd_ne ?_) ?_; walk_at "ne"; walk_at "look"))
local macro_rules | `(tactic| walk_at "rds") => `(tactic| first | rfl | assumption | walk_at "look" | exact SqL.of (by walk_at "look") | exact SqT.of (by walk_at "look") | exact Or.inl (SqL.of (by walk_at "look")) | exact Or.inl (by assumption) | decide | omega | exact Nat.le_of_ble_eq_true rfl | exact Or.inr ⟨by decide, by decide⟩ | exact Or.inl ⟨by omega, by omega⟩ | exact ⟨by decide, by decide⟩)
local macro_rules | `(tactic| walk_at "rd1") => `(tactic| first | (apply Exists.intro) | (refine And.intro ?_ ?_; walk_at "rds") | (refine Or.inl ?_; apply Exists.intro; refine And.intro ?_ ?_; rfl))
local macro_rules | `(tactic| walk_at "rd") => `(tactic| repeat walk_at "rd1")
def letters : Str := "abcdefghijklmnopqrstuvwxyz"
def nameB (z : Str) : Bool := (decide (1 ≤ (z.length : Int)) && decide ((z.length : Int) ≤ 8)) && ((List.range z.cps.size).map fun i => decide (z.cps.getD i 0 ∈ letters.cps.toList)).all id
def isI : V → Bool
  | .int _ => true
  | .bl _ => true
  | _ => false
def isB : V → Bool
  | .bl _ => true
  | _ => false
def isS : V → Bool
  | .str _ => true
  | _ => false
def dueI : V → Bool
  | .int _ => true
  | _ => false
def dueC : V → Bool
  | .int i => decide (0 ≤ i)
  | _ => false
def dueN : V → Bool
  | .str z => nameB z
  | _ => false
/-- the things that are drawn -/
inductive Tg (K : PySem.W.Frag) (H : Hp) : V → Prop where
  | int (i : Int) (h : i.natAbs ≤ 10 ^ 31) : Tg K H (.int i)
  | str (z : Str) (h : z.length ≤ 10) (hc : ∀ c ∈ z.cps.toList, c < 256) : Tg K H (.str z)
  | non : Tg K H .non
  | bl (b : Bool) : Tg K H (.bl b)
  | tup0 (a : Addr) (h : H a = some (.tup [])) : Tg K H (.ref a)
  | lst0 (a : Addr) (h : H a = some (.lst [])) : Tg K H (.ref a)
  | dct0 (a : Addr) (h : H a = some (.dK [])) : Tg K H (.ref a)
  | lst1 (a : Addr) (h : H a = some (.lst [.str "a"])) : Tg K H (.ref a)
  | tup1 (a : Addr) (h : H a = some (.tup [.str "a"])) : Tg K H (.ref a)
  | dct1 (a : Addr) (h : H a = some (.dK [(Sum.inr "a", .int 1)])) : Tg K H (.ref a)
  | exc (a : Addr) (h : Exv.IsExc H a (He.ga K "TooMany") [("limit", .int 1), ("what", .str "a")] [.str "a", .int 1]) : Tg K H (.ref a)
section
variable {K : PySem.W.Frag} {mg : Str → Option Value} {H H' : Hp} {x : V}
theorem Tg.same (e : L2.Same H H') (h : Tg K H x) : Tg K H' x := by
  cases h with
  | int i h => exact .int i h
  | str z h hc => exact .str z h hc
  | non => exact .non
  | bl b => exact .bl b
  | tup0 a h => exact .tup0 a (e _ _ h)
  | lst0 a h => exact .lst0 a (e _ _ h)
  | dct0 a h => exact .dct0 a (e _ _ h)
  | lst1 a h => exact .lst1 a (e _ _ h)
  | tup1 a h => exact .tup1 a (e _ _ h)
  | dct1 a h => exact .dct1 a (e _ _ h)
  | exc a h => exact .exc a (h.same e)
/-- what isinstance says of them -/
theorem Tg.isi (T : Txt K mg) (h : Tg K H x) : ∃ t, Exv.TyE K H x t ∧ PySem.W.kitOne K t (.type "int") = some (isI x) ∧ PySem.W.kitOne K t (.type "bool") = some (isB x) ∧ PySem.W.kitOne K t (.type "str") = some (isS x) := by
  cases h with
  | int i h => exact ⟨_, .base (.base (.int i)), kit_ty (show kitB "int" "int" = some true from by decide +kernel), kit_ty (show kitB "int" "bool" = some false from by decide +kernel), kit_ty (show kitB "int" "str" = some false from by decide +kernel)⟩
  | str z h hc => exact ⟨_, .base (.base (.str z)), kit_ty (show kitB "str" "int" = some false from by decide +kernel), kit_ty (show kitB "str" "bool" = some false from by decide +kernel), kit_ty (show kitB "str" "str" = some true from by decide +kernel)⟩
  | non => exact ⟨_, .base (.base .non), kit_ty (show kitB "NoneType" "int" = some false from by decide +kernel), kit_ty (show kitB "NoneType" "bool" = some false from by decide +kernel), kit_ty (show kitB "NoneType" "str" = some false from by decide +kernel)⟩
  | bl b => exact ⟨_, .base (.base (.bl b)), kit_ty (show kitB "bool" "int" = some true from by decide +kernel), kit_ty (show kitB "bool" "bool" = some true from by decide +kernel), kit_ty (show kitB "bool" "str" = some false from by decide +kernel)⟩
  | tup0 a h => exact ⟨_, .base (.base (.tup h)), kit_ty (show kitB "tuple" "int" = some false from by decide +kernel), kit_ty (show kitB "tuple" "bool" = some false from by decide +kernel), kit_ty (show kitB "tuple" "str" = some false from by decide +kernel)⟩
  | lst0 a h => exact ⟨_, .base (.base (.lst h)), kit_ty (show kitB "list" "int" = some false from by decide +kernel), kit_ty (show kitB "list" "bool" = some false from by decide +kernel), kit_ty (show kitB "list" "str" = some false from by decide +kernel)⟩
  | dct0 a h => exact ⟨_, .base (.base (.dK h)), kit_ty (show kitB "dict" "int" = some false from by decide +kernel), kit_ty (show kitB "dict" "bool" = some false from by decide +kernel), kit_ty (show kitB "dict" "str" = some false from by decide +kernel)⟩
  | lst1 a h => exact ⟨_, .base (.base (.lst h)), kit_ty (show kitB "list" "int" = some false from by decide +kernel), kit_ty (show kitB "list" "bool" = some false from by decide +kernel), kit_ty (show kitB "list" "str" = some false from by decide +kernel)⟩
  | tup1 a h => exact ⟨_, .base (.base (.tup h)), kit_ty (show kitB "tuple" "int" = some false from by decide +kernel), kit_ty (show kitB "tuple" "bool" = some false from by decide +kernel), kit_ty (show kitB "tuple" "str" = some false from by decide +kernel)⟩
  | dct1 a h => exact ⟨_, .base (.base (.dK h)), kit_ty (show kitB "dict" "int" = some false from by decide +kernel), kit_ty (show kitB "dict" "bool" = some false from by decide +kernel), kit_ty (show kitB "dict" "str" = some false from by decide +kernel)⟩
  | exc a h =>
    obtain ⟨_, _, c⟩ := T.cr.cl
    exact ⟨_, .exc h c, T.kI, T.kO, T.kS⟩
/-- their texts -/
theorem Tg.sw (T : Txt K mg) (h : Tg K H x) : ∃ as t, Rp.Sw K H as x t ∧ as.length ≤ 3 ∧ t.length ≤ 1000 := by
  cases h with
  | int i h =>
    refine ⟨[], _, .int i ?_, by decide, ?_⟩
    · refine Nat.lt_of_lt_of_le (m := 110) ?_ (by decide)
      by_cases z : i.natAbs = 0
      · rw [z]; decide
      · exact (Nat.log2_lt z).mpr (Nat.lt_of_le_of_lt h (by decide))
    · have e := int_text_length_le10 (a := i) (k := 32) (by decide) (Nat.lt_of_le_of_lt h (by decide))
      rw [ofString_length]
      omega
  | str z h hc =>
    refine ⟨[], _, .str z, by decide, ?_⟩
    have e := PySem.StrLaws.reprText_len z (fun c hm => Nat.lt_trans (hc c hm) (by decide))
    omega
  | non => exact ⟨[], _, .non, by decide, by decide⟩
  | bl b => exact ⟨[], _, .bl b, by decide, by cases b <;> decide⟩
  | tup0 a h => exact ⟨[a], _, .tup h .nil (by simp), by simp, by decide +kernel⟩
  | lst0 a h => exact ⟨[], _, .lst0 h, by decide, by decide +kernel⟩
  | dct0 a h => exact ⟨[a], _, .dct h .nil .nil (by simp), by simp, by decide +kernel⟩
  | lst1 a h => exact ⟨[a], _, .lst h (.cons (.str _) .nil) (by simp), by simp, by decide +kernel⟩
  | tup1 a h => exact ⟨[a], _, .tup h (.cons (.str _) .nil) (by simp), by simp, by decide +kernel⟩
  | dct1 a h => exact ⟨[a], _, .dct h (.cons (.str _) .nil) (.cons (.int 1 (by decide)) .nil) (by simp), by simp, by decide +kernel⟩
  | exc a h =>
    obtain ⟨t, ht, h⟩ := h
    rcases h with ⟨z, _⟩ | ⟨d, h, hd⟩
    · cases z
    · exact ⟨[t], _, .exc d h hd ht T.cr (.cons (.str _) (.cons (.int 1 (by decide)) .nil)) (by simp) (by decide), by simp, by decide +kernel⟩
end
section
variable {P : Program} {w : World} {K : PySem.W.Frag} {mg : Str → Option Value} {base : Heap}
def spIsI (K : PySem.W.Frag) : Sp := fun vs H Q _ => ∃ x, vs = [x] ∧ Tg K H x ∧ Q (.bl (dueI x)) H
def spIsC (K : PySem.W.Frag) : Sp := fun vs H Q _ => ∃ x, vs = [x] ∧ Tg K H x ∧ Q (.bl (dueC x)) H
def spIsN (K : PySem.W.Frag) : Sp := fun vs H Q _ => ∃ x, vs = [x] ∧ Tg K H x ∧ ∀ H', L2.Same H H' → Q (.bl (dueN x)) H'
theorem d_is_integer (T : Txt K mg) : Df P w K mg base 1 "is_integer" ["value"] (spIsI K) := by
  refine T.S_is_integer.by sc_is_integer (fun vs H Q E h => ?_) (fun f cdv A outer s H vs Q E hr hgd h => ?_)
  · obtain ⟨x, rfl, _⟩ := h; rfl
  · obtain ⟨x, rfl, hx, k⟩ := h
    refine ⟨_, (pss_one (ps_ret (pe_and (pe_callB (Exv.call_isE T.gs) (by rfl) T.n_isinstance (by decide +kernel) (pa_cons (pv 0) (pa_cons (pe_bltn (v := .ty "int") (u := .type "int") (by rfl) T.n_int (by decide +kernel) rfl) pa_nil))) (pe_one (pe_not (pe_callB (Exv.call_isE T.gs) (by rfl) T.n_isinstance (by decide +kernel) (pa_cons (pv 0) (pa_cons (pe_bltn (v := .ty "bool") (u := .type "bool") (by rfl) T.n_bool (by decide +kernel) rfl) pa_nil)))))))), ?_⟩
    obtain ⟨t, ty, k1, k2, k3⟩ := hx.isi T
    refine ⟨_, rfl, x, .ty "int", t, .type "int", _, rfl, .ty _, ty, k1, _, rfl, ?_⟩
    refine ite2 (fun c => ?_) (fun c => ?_)
    · refine ⟨_, rfl, x, .ty "bool", t, .type "bool", _, rfl, .ty _, ty, k2, _, rfl, ?_⟩
      have e : (!isB x) = dueI x := by cases hx <;> first | rfl | cases c
      show Q (.bl (!isB x)) H
      rw [e]; exact k
    · have e : false = dueI x := by cases hx <;> first | rfl | exact absurd rfl c
      show Q (.bl false) H
      rw [e]; exact k
theorem d_is_count (T : Txt K mg) : Df P w K mg base 2 "is_count" ["value"] (spIsC K) := by
  have D_is_integer := d_is_integer (P := P) (w := w) (base := base) T
  refine T.S_is_count.by sc_is_count (fun vs H Q E h => ?_) (fun f cdv A outer s H vs Q E hr hgd h => ?_)
  · obtain ⟨x, rfl, _⟩ := h; rfl
  · obtain ⟨x, rfl, hx, k⟩ := h
    refine ⟨_, (pss_one (ps_ret (pe_and (pe_own D_is_integer (hr.mono (by first | decide | omega)) hgd (pa_cons (pv 0) pa_nil)) (pe_one (pe_cmpR op_ge (pv 0) pe_int (nomark _)))))), ?_⟩
    refine ⟨_, rfl, x, rfl, hx, _, rfl, ?_⟩
    refine ite2 (fun c => ?_) (fun c => ?_)
    · cases hx with
      | int i h => exact ⟨_, rfl, i, 0, rfl, rfl, k⟩
      | _ => cases c
    · have e : false = dueC x := by cases hx <;> first | rfl | exact absurd rfl c
      show Q (.bl false) H
      rw [e]; exact k
end
end K10

set_option Elab.async false
set_option linter.all false
set_option maxRecDepth 100000
set_option maxHeartbeats 4000000
namespace K10
open PySem L2 Lay
local macro_rules | `(tactic| walk_at "ne") => `(tactic| first | assumption | (apply Ne.symm; assumption) | exact ne_of_none (by walk_at "look") (by assumption) | exact (ne_of_none (by walk_at "look") (by assumption)).symm)
local macro_rules | `(tactic| walk_at "look") => `(tactic| first | assumption | exact upd_same | (refine Eq.trans (upd_ne ?_) ?_; walk_at "ne"; walk_at "look"))
local macro_rules | `(tactic| walk_at "rds") => `(tactic| first | rfl | assumption | walk_at "look" | exact SqL.of (by walk_at "look") | exact SqT.of (by walk_at "look") | exact Or.inl (SqL.of (by walk_at "look")) | exact Or.inl (by assumption) | decide | omega | exact Nat.le_of_ble_eq_true rfl | exact Or.inr ⟨by decide, by decide⟩ | exact Or.inl ⟨by omega, by omega⟩ | exact ⟨by decide, by decide⟩)
local macro_rules | `(tactic| walk_at "rd1") => `(tactic| first | (apply Exists.intro) | (refine And.intro ?_ ?_; walk_at "rds") | (refine Or.inl ?_; apply Exists.intro; refine And.intro ?_ ?_; rfl))
local macro_rules | `(tactic| walk_at "rd") => `(tactic| repeat walk_at "rd1")
section
variable {P : Program} {w : World} {K : PySem.W.Frag} {mg : Str → Option Value} {base : Heap}
/-- all signs are letters -/
def lets (z : Str) : List Bool := (List.range z.cps.size).map fun i => decide (z.cps.getD i 0 ∈ letters.cps.toList)
theorem nameB_eq (z : Str) : nameB z = ((decide (1 ≤ (z.length : Int)) && decide ((z.length : Int) ≤ 8)) && (lets z).all id) := rfl
theorem len_size (z : Str) : z.length = z.cps.size := rfl
/-- the comprehension over a text's signs -/
theorem lc_signs {z : Str} {te : TE} {i1 : Nat} {σ : L2.St} {H1 : Hp} {D : Addr} {Qd : Hp → Prop} (hz : z.length ≤ 1000) (nD : H1 D = none)
    (hte : ∀ c H (Kn : V → Hp → Prop), (∀ H4, L2.Same H H4 → Kn (.bl (decide (c ∈ letters.cps.toList))) H4) → te ((wipe σ [i1]).set i1 (some (.str ⟨#[c]⟩))) H Kn)
    (hw : ∀ v, wipe ((wipe σ [i1]).set i1 v) [i1] = wipe σ [i1])
    (k : ∀ H xs, L2.Same H1 H → H D = some (.lst xs) → xs = (lets z).map V.bl → Qd H) :
    ∃ W : Nat → Nat → Hp → Prop, (∃ m, W 0 m (upd H1 D (.lst []))) ∧ ∀ i m H, W i m H →
      ((Its z).stop i H ∧ Qd H) ∨ ((Its z).go i H ∧ ∃ Nx : Hp → Prop, (∀ H', Nx H' → ∃ m', m' < m ∧ W (i + 1) m' H') ∧ ∀ x H', (Its z).yld i H x H' → gName i1 x (wipe σ [i1]) H' fun σ2 H2 => wipe σ2 [i1] = wipe σ [i1] ∧ tYes σ2 H2 fun b H3 =>
        if b = true then te σ2 H3 fun y H4 => ∃ acc, H4 D = some (.lst acc) ∧ acc.length < sizeLine ∧ Nx (upd H4 D (.lst (acc ++ [y]))) else Nx H3) := by
  refine lc_pure walk_str nD (by rw [← len_size]; omega) (fun _ _ => trivial) (fun i y => y = .bl (decide (z.cps.getD i 0 ∈ letters.cps.toList))) (fun i x H H' Kn Z hi sm y q => ?_) (fun H xs sm hD hl hr => ?_)
  · obtain ⟨rfl, c, hc, rfl⟩ := y
    refine ⟨hw _, ?_⟩
    show (if true = true then te ((wipe σ [i1]).set i1 (some (V.str ⟨#[c]⟩))) H' Kn else Z H')
    rw [if_pos rfl]
    refine hte c _ _ fun H4 e => q _ H4 e ?_
    have : z.cps.getD i 0 = c := by rw [Array.getD_eq_getD_getElem?, hc]; rfl
    rw [this]
  · refine k H xs sm hD ?_
    rw [eq_map hl hr]
    unfold lets
    rw [List.map_map]
    rfl
theorem d_is_name (T : Txt K mg) : Df P w K mg base 1 "is_name" ["value"] (spIsN K) := by
  refine T.S_is_name.by sc_is_name (fun vs H Q E h => ?_) (fun f cdv A outer s H vs Q E hr hgd h => ?_)
  · obtain ⟨x, rfl, _⟩ := h; rfl
  · obtain ⟨x, rfl, hx, k⟩ := h
    refine ⟨_, (pss_cons (ps_if (PW.pt (pw_or (pt_not (pt_val (pe_callB (Exv.call_isE T.gs) (by rfl) T.n_isinstance (by decide +kernel) (pa_cons (pv 0) (pa_cons (pe_bltn (v := .ty "str") (u := .type "str") (by rfl) T.n_str (by decide +kernel) rfl) pa_nil))))) (pw_or (pt_cmpR op_lt (pe_callB call_len_str (by rfl) T.n_len PySem.boot_len (pa_cons (pv 0) pa_nil)) pe_int (nomark _)) (pw_or1 (pt_cmpR op_gt (pe_callB call_len_str (by rfl) T.n_len PySem.boot_len (pa_cons (pv 0) pa_nil)) (pe_con1 T.c_MOST_LETTERS) (nomark _)))))) (pss_one (ps_ret pe_bl)) pss_nil)
      (pss_one (ps_ret (pe_and (pe_bm0 PySem.F.plainAttrs_str PySem.F.slot_str_isascii PySem.F.type_str_isascii mt_isascii (pv 0)) (pe_and (pe_bm0 PySem.F.plainAttrs_str PySem.F.slot_str_isalpha PySem.F.type_str_isalpha mt_isalpha (pv 0)) (pe_one (pe_bm0 PySem.F.plainAttrs_str PySem.F.slot_str_islower PySem.F.type_str_islower mt_islower (pv 0)))))))), ?_⟩
    obtain ⟨t, ty, k1, k2, k3⟩ := hx.isi T
    refine ⟨_, rfl, x, .ty "str", t, .type "str", _, rfl, .ty _, ty, k3, _, rfl, ?_⟩
    have no : isS x = false → dueN x = false := fun e => by cases hx <;> first | rfl | cases e
    by_cases hs : isS x = true
    · rw [hs]
      cases hx with
      | str z h10 hc =>
        refine iteF ?_
        have zl : z.length ≤ sizeLine := Nat.le_trans h10 (by decide)
        refine ⟨_, rfl, z, rfl, zl, _, _, rfl, rfl, _, rfl, ?_⟩
        refine ite2 (fun c => ?_) (fun c => ?_)
        · refine iteT ?_
          have c1 := of_decide_eq_true c
          have e : dueN (.str z) = false := by
            show nameB z = false
            rw [nameB_eq, decide_eq_false (show ¬ 1 ≤ (z.length : Int) by omega)]
            rfl
          have q := k H (L2.Same.refl H)
          rw [e] at q
          exact q
        · have c1 : ¬ ((z.length : Int) < 1) := fun z => c (decide_eq_true z)
          refine ⟨_, rfl, z, rfl, zl, _, _, rfl, rfl, _, rfl, ?_⟩
          refine ite2 (fun c => ?_) (fun c => ?_)
          · have c2 := of_decide_eq_true c
            have e : dueN (.str z) = false := by
              show nameB z = false
              rw [nameB_eq, decide_eq_false (show ¬ (z.length : Int) ≤ 8 by omega), Bool.and_false]
              rfl
            have q := k H (L2.Same.refl H)
            rw [e] at q
            exact q
          · have c2 : ¬ ((8 : Int) < (z.length : Int)) := fun z => c (decide_eq_true z)
            have e : dueN (.str z) = Sgn.signB z := by
              rw [Sgn.signs_eq (by omega)]
              show nameB z = _
              rw [nameB_eq]
              rw [decide_eq_true (show 1 ≤ (z.length : Int) by omega), decide_eq_true (show (z.length : Int) ≤ 8 by omega)]
              rfl
            have q := k H (L2.Same.refl H)
            rw [e] at q
            unfold Sgn.signB at q
            refine ⟨_, rfl, rfl, z, rfl, rfl, trivial, _, rfl, ?_⟩
            cases a1 : PySem.Txt.isascii z with
            | false => rw [a1] at q; exact iteF q
            | true =>
              rw [a1] at q
              refine iteT ⟨_, rfl, rfl, z, rfl, rfl, trivial, _, rfl, ?_⟩
              cases a2 : PySem.Txt.isalpha z with
              | false => rw [a2] at q; exact iteF q
              | true =>
                rw [a2] at q
                exact iteT ⟨_, rfl, rfl, z, rfl, rfl, trivial, q⟩
      | _ => cases hs
    · have hs' : isS x = false := Bool.eq_false_iff.mpr hs
      rw [hs']
      refine iteT (iteT ?_)
      have q := k H (L2.Same.refl H)
      rw [no hs'] at q
      exact q
end
end K10

set_option Elab.async false
set_option linter.all false
set_option maxRecDepth 100000
set_option maxHeartbeats 4000000
namespace K10
open PySem L2 Lay
local macro_rules | `(tactic| walk_at "ne") => `(tactic| first | assumption | (apply Ne.symm; assumption) | exact ne_of_none (by walk_at "look") (by assumption) | exact (ne_of_none (by walk_at "look") (by assumption)).symm)
local macro_rules | `(tactic| walk_at "look") => `(tactic| first | assumption | exact upd_same | (refine Eq.trans (upd_ne ?_) ?_; walk_at "ne"; walk_at "look"))
local macro_rules | `(tactic| walk_at "rds") => `(tactic| first | rfl | assumption | walk_at "look" | exact SqL.of (by walk_at "look") | exact SqT.of (by walk_at "look") | exact Or.inl (SqL.of (by walk_at "look")) | exact Or.inl (by assumption) | decide | omega | exact Nat.le_of_ble_eq_true rfl | exact Or.inr ⟨by decide, by decide⟩ | exact Or.inl ⟨by omega, by omega⟩ | exact ⟨by decide, by decide⟩)
local macro_rules | `(tactic| walk_at "rd1") => `(tactic| first | (apply Exists.intro) | (refine And.intro ?_ ?_; walk_at "rds") | (refine Or.inl ?_; apply Exists.intro; refine And.intro ?_ ?_; rfl))
local macro_rules | `(tactic| walk_at "rd") => `(tactic| repeat walk_at "rd1")
section
variable {P : Program} {w : World} {K : PySem.W.Frag} {mg : Str → Option Value} {base : Heap}
def spThing (K : PySem.W.Frag) : Sp := fun vs H Q _ => ∃ p : Addr, vs = [.ref p] ∧ H p = some (PotO p) ∧
  ∀ x t l H', Tg K H' x → L2.Same H H' → H' t = some (.tup [x, .ref l]) → H' l = some (.lst [.bl (dueI x), .bl (dueC x), .bl (dueN x)]) → Q (.ref t) H'
theorem ones {xs : List V} {L : List Nat} (h : ∀ (i : Nat) (y : V), xs[i]? = some y → ∃ c ∈ L, y = .str ⟨#[c]⟩) : ∃ cs : List Nat, (∀ c ∈ cs, c ∈ L) ∧ xs = (cs.map fun c => (⟨#[c]⟩ : Str)).map V.str := by
  induction xs with
  | nil => exact ⟨[], fun _ z => by simp at z, rfl⟩
  | cons x xs ih =>
    obtain ⟨c, hc, rfl⟩ := h 0 x rfl
    obtain ⟨cs, hcs, rfl⟩ := ih fun i y e => h (i + 1) y e
    exact ⟨c :: cs, fun d hd => by
      rcases List.mem_cons.mp hd with rfl | z
      · exact hc
      · exact hcs _ z, rfl⟩
theorem sum_ones (cs : List Nat) : (((cs.map fun c => (⟨#[c]⟩ : Str))).map fun x => x.length).sum = cs.length := by
  induction cs with
  | nil => rfl
  | cons c cs ih => simp only [List.map_cons, List.sum_cons, ih, List.length_cons]; show 1 + _ = _; omega
theorem join_ones : ∀ cs : List Nat, PySem.Txt.join "" (cs.map fun c => (⟨#[c]⟩ : Str)) = ⟨cs.toArray⟩
  | [] => rfl
  | [c] => rfl
  | c :: d :: cs => by
    have ih := join_ones (d :: cs)
    have e : ∀ l : List Str, PySem.Txt.join "" l = Str.join "" l := fun l => PySem.StrLaws.glued_eq_join _ _
    rw [e] at ih ⊢
    show ((⟨#[c]⟩ : Str) ++ ("" : Str)) ++ Str.join "" ((d :: cs).map fun c => (⟨#[c]⟩ : Str)) = _
    rw [ih]
    show Str.mk ((#[c] ++ #[]) ++ (d :: cs).toArray) = ⟨(c :: d :: cs).toArray⟩
    simp
theorem d31 {v : Int} (v0 : 0 ≤ v) (v1 : v < 2 * 10 ^ Int.toNat 31 - 1) : (v - (10 ^ Int.toNat 31 - 1)).natAbs ≤ 10 ^ 31 := by
  have e : (10 : Int) ^ Int.toNat 31 = 10000000000000000000000000000000 := by decide
  rw [e] at v1 ⊢
  omega
theorem d31a {v : Int} (v0 : 0 ≤ v) (v1 : v < 41) : (v - 20).natAbs ≤ 10 ^ 31 := by omega
theorem d_thing (T : Txt K mg) : Df P w K mg base 3 "_law_thing" ["_law_pot_here"] (spThing K) := by
  have D_l_draw := d_draw (P := P) (w := w) (base := base) T
  have D_l_among := d_among (P := P) (w := w) (base := base) T
  refine T.S_l_thing.by sc_l_thing (fun vs H Q E h => ?_) (fun f cdv A outer s H vs Q E hr hgd h => ?_)
  · obtain ⟨p, rfl, _⟩ := h; rfl
  · obtain ⟨p, rfl, hp, k⟩ := h
    refine ⟨_, (pss_cons (ps_set (i := 1) sc_l_thing.nd rfl (by first | exact Or.inl rfl | exact Or.inr rfl) (pe_own D_l_draw (hr.mono (by first | decide | omega)) hgd (pa_cons (pv 0) (pa_cons pe_int pa_nil))))
      (pss_cons (ps_if (pt_cmpR op_lt (pv 1) pe_int (nomark _)) (pss_cons (ps_set (i := 2) sc_l_thing.nd rfl (by first | exact Or.inl rfl | exact Or.inr rfl) (pe_op op_sub (pe_own D_l_draw (hr.mono (by first | decide | omega)) hgd (pa_cons (pv 0) (pa_cons (pe_ix ix_list (pe_lst (pa_cons pe_int (pa_cons (pe_op op_sub (pe_op op_mul pe_int (pe_op op_pow pe_int pe_int)) pe_int) pa_nil))) (pv 1) (fun _ _ => rfl)) pa_nil))) (pe_ix ix_list (pe_lst (pa_cons pe_int (pa_cons (pe_op op_sub (pe_op op_pow pe_int pe_int) pe_int) pa_nil))) (pv 1) (fun _ _ => rfl))))
      (pss_one (ps_ret (pe_tup (pa_cons (pv 2) (pa_cons (pe_lst (pa_cons pe_bl (pa_cons (pe_cmpR op_ge (pv 2) pe_int (nomark _)) (pa_cons pe_bl pa_nil)))) pa_nil)))))) pss_nil)
      (pss_cons (ps_if (pt_cmpR op_lt (pv 1) pe_int (nomark _)) (pss_cons (ps_set (i := 3) sc_l_thing.nd rfl (by first | exact Or.inl rfl | exact Or.inr rfl) (pe_ix ix_list (pe_lst (pa_cons pe_str (pa_cons pe_str pa_nil))) (pe_op op_sub (pv 1) pe_int) (fun _ _ => rfl)))
      (pss_cons (ps_set (i := 4) sc_l_thing.nd rfl (by first | exact Or.inl rfl | exact Or.inr rfl) (pe_join pe_str (pe_lc (own := [("_law_turn", 7)]) rfl sc_l_thing.nd (pi_range1 (by rfl) T.n_range (pa_cons (pe_own D_l_draw (hr.mono (by first | decide | omega)) hgd (pa_cons (pv 0) (pa_cons pe_int pa_nil))) pa_nil)) (blkOk_by (own := [("_law_turn", 7)]) (N := ["_law_pot_here", "_law_way", "_law_number", "_law_signs", "_law_word", "_law_is_word", "_law_some", "_law_turn", "_law_sign"]) (sc := defScope s_l_thing) (by decide +kernel)) (fun _ _ _ _ _ => (pg_name (i := 7) sc_l_thing.nd rfl (by first | exact Or.inl rfl | exact Or.inr rfl))) (fun _ _ _ _ _ => pts_nil) (fun _ _ _ _ _ => (pe_own D_l_among (hr.mono (by first | decide | omega)) hgd (pa_cons (pv 0) (pa_cons (pv 3) pa_nil)))))))
      (pss_cons (ps_set (i := 5) sc_l_thing.nd rfl (by first | exact Or.inl rfl | exact Or.inr rfl) (pe_and (pe_chain op_le op_le pe_int (pe_callB call_len_str (by rfl) T.n_len PySem.boot_len (pa_cons (pv 4) pa_nil)) pe_int) (pe_one (pe_callB (cr_all rfl) (by rfl) T.n_all (by decide +kernel) (pa_cons (pe_lc (own := [("_law_sign", 8)]) rfl sc_l_thing.nd (pi_str (pv 4)) (blkOk_by (own := [("_law_sign", 8)]) (N := ["_law_pot_here", "_law_way", "_law_number", "_law_signs", "_law_word", "_law_is_word", "_law_some", "_law_turn", "_law_sign"]) (sc := defScope s_l_thing) (by decide +kernel)) (fun _ _ _ _ _ => (pg_name (i := 8) sc_l_thing.nd rfl (by first | exact Or.inl rfl | exact Or.inr rfl))) (fun _ _ _ _ _ => pts_nil) (fun _ _ _ _ _ => (pe_cmpR op_in_sign (pv 8) pe_str (by rfl)))) pa_nil)))))
      (pss_one (ps_ret (pe_tup (pa_cons (pv 4) (pa_cons (pe_lst (pa_cons pe_bl (pa_cons pe_bl (pa_cons (pv 5) pa_nil)))) pa_nil)))))))) pss_nil)
      (pss_cons (ps_set (i := 6) sc_l_thing.nd rfl (by first | exact Or.inl rfl | exact Or.inr rfl) (pe_lst (pa_cons pe_non (pa_cons pe_bl (pa_cons pe_bl (pa_cons (pe_tup pa_nil) (pa_cons (pe_lst pa_nil) (pa_cons pe_dnewK (pa_cons (pe_lst (pa_cons pe_str pa_nil)) (pa_cons (pe_tup (pa_cons pe_str pa_nil)) (pa_cons (pe_disp (pps_cons pe_str pe_int pps_nil) (by rfl) (by rfl) (fun z => by cases z) (by decide)) (pa_cons (Exv.pe_mk Exv.bsA (T.e_TooMany _ _ _) (by decide) (hr.mono (by first | decide | omega)) (pa_cons pe_str (pa_cons pe_int pa_nil))) pa_nil))))))))))))
      (pss_one (ps_ret (pe_tup (pa_cons (pe_own D_l_among (hr.mono (by first | decide | omega)) hgd (pa_cons (pv 0) (pa_cons (pv 6) pa_nil))) (pa_cons (pe_lst (pa_cons pe_bl (pa_cons pe_bl (pa_cons pe_bl pa_nil)))) pa_nil))))))))), ?_⟩
    walk_at "rd"
    intro d H1 d0 d1 s1
    have hp1 := s1 _ _ hp
    walk_at "rd"
    refine ite2 (fun c => ?_) (fun c => ?_)
    · have c1 := of_decide_eq_true c
      walk_at "rd"
      intro t1 n1
      have : d = 0 ∨ d = 1 := by omega
      rcases this with rfl | rfl
      · walk_at "rd"
        intro v H2 v0 v1 s2
        walk_at "rd"
        intro t2 n2
        walk_at "rd"
        intro l nl
        walk_at "rd"
        intro t nt
        refine k (.int (v - 20)) t l _ (.int _ (d31a v0 v1)) ?_ upd_same ?_
        · exact ((s1.trans (Same.new n1)).trans s2).trans ((Same.new n2).trans ((Same.new nl).trans (Same.new nt)))
        · exact (upd_ne (ne_of_none upd_same nt)).trans upd_same
      · walk_at "rd"
        intro v H2 v0 v1 s2
        walk_at "rd"
        intro t2 n2
        walk_at "rd"
        intro l nl
        walk_at "rd"
        intro t nt
        refine k (.int (v - (10 ^ Int.toNat 31 - 1))) t l _ (.int _ (d31 v0 v1)) ?_ upd_same ?_
        · exact ((s1.trans (Same.new n1)).trans s2).trans ((Same.new n2).trans ((Same.new nl).trans (Same.new nt)))
        · exact (upd_ne (ne_of_none upd_same nt)).trans upd_same
    · have c1 : ¬ (d < 2) := fun z => c (decide_eq_true z)
      walk_at "rd"
      refine ite2 (fun e => ?_) (fun e => ?_)
      · have e1 := of_decide_eq_true e
        walk_at "rd"
        intro t1 n1
        obtain ⟨sg, hsg, h0, h1, hc⟩ : ∃ sg : Str, atI [V.str letters, V.str "abzAZ0 _-\n1"] (d - 2) = some (.str sg) ∧ 0 < sg.length ∧ sg.length ≤ 100000 ∧ ∀ c ∈ sg.cps.toList, c < 256 := by
          have : d = 2 ∨ d = 3 := by omega
          rcases this with rfl | rfl
          · exact ⟨_, rfl, by decide, by decide, by decide⟩
          · exact ⟨_, rfl, by decide, by decide, by decide⟩
        walk_at "rd"
        refine And.intro ⟨_, rfl⟩ ?_
        walk_at "rd"
        intro n H2 b0 b1 s2
        walk_at "rd"
        intro D nD
        have hp2 : H2 p = some (PotO p) := s2 _ _ (Same.new n1 _ _ hp1)
        refine lc_pure (n := n.toNat) walk_range nD (by omega) (fun _ _ => trivial) (fun i y => ∃ c ∈ sg.cps.toList, y = .str ⟨#[c]⟩) (fun i x H4 H5 Kn Z hi sm y q => ?_) (fun H4 xs sm hD hl hr => ?_)
        · obtain ⟨rfl, rfl⟩ := y
          refine ⟨rfl, ?_⟩
          show (if true = true then tG (spAmong K) (tCons (tVar 0) (tCons (tVar 3) tNil)) _ H5 Kn else Z H5)
          rw [if_pos rfl]
          walk_at "rd"
          refine ⟨sm _ _ hp2, .inr ⟨sg, rfl, h0, h1, fun c H6 hc s6 => q _ _ s6 ⟨c, hc, rfl⟩⟩⟩
        · obtain ⟨cs, hcs, rfl⟩ := ones hr
          have e1 : cs.length = n.toNat := by rw [← hl]; simp
          refine ⟨_, D, _, rfl, rfl, .inl (SqL.of hD), ?_, ?_⟩
          · rw [sum_ones]
            show cs.length + _ * 0 ≤ _
            omega
          obtain ⟨z, hz⟩ : ∃ z, PySem.Txt.join "" (cs.map fun c => (⟨#[c]⟩ : Str)) = z := ⟨_, rfl⟩
          have hz2 := hz
          rw [join_ones] at hz2
          have zl : z.length ≤ 10 := by
            rw [← hz2]
            show cs.toArray.size ≤ 10
            rw [List.size_toArray]
            omega
          have zl2 : z.length ≤ sizeLine := Nat.le_trans zl (by decide)
          have zc : ∀ c ∈ z.cps.toList, c < 256 := fun c h => hc c (hcs c (by rw [← hz2] at h; exact h))
          rw [hz]
          have fin : ∀ (b : Bool) H6 t l, L2.Same H4 H6 → b = nameB z → H6 t = some (.tup [.str z, .ref l]) → H6 l = some (.lst [.bl false, .bl false, .bl b]) → Q (.ref t) H6 := fun b H6 t l h e ht hl => by
            subst e
            exact k (.str z) t l H6 (.str z zl zc) (s1.trans ((Same.new n1).trans (s2.trans (sm.trans h)))) ht hl
          walk_at "rd"
          refine ite2 (fun g => ?_) (fun g => ?_)
          · have g1 := of_decide_eq_true g
            walk_at "rd"
            refine ite2 (fun g' => ?_) (fun g' => ?_)
            · have g2 := of_decide_eq_true g'
              walk_at "rd"
              intro D2 nD2
              refine lc_signs (z := z) (i1 := 8) (H1 := H4) (D := D2) (by omega) nD2 ?_ ?_ ?_
              · exact fun c H6 Kn q => ⟨_, rfl, c, letters, rfl, rfl, q H6 (L2.Same.refl H6)⟩
              · exact fun v => rfl
              intro H6 xs s6 hD6 e6
              subst e6
              refine ⟨D2, lets z, rfl, SqL.of hD6, ?_⟩
              walk_at "rd"
              intro l nl
              walk_at "rd"
              intro t nt
              refine fin _ _ t l (s6.trans ((Same.new nl).trans (Same.new nt))) ?_ upd_same ((upd_ne (ne_of_none upd_same nt)).trans upd_same)
              rw [nameB_eq, decide_eq_true g1, decide_eq_true g2]
              rfl
            · have g2 : ¬ ((z.length : Int) ≤ 8) := fun h => g' (decide_eq_true h)
              walk_at "rd"
              intro l nl
              walk_at "rd"
              intro t nt
              refine fin false _ t l ((Same.new nl).trans (Same.new nt)) ?_ upd_same ((upd_ne (ne_of_none upd_same nt)).trans upd_same)
              rw [nameB_eq, decide_eq_false g2, Bool.and_false]
              rfl
          · have g1 : ¬ (1 ≤ (z.length : Int)) := fun h => g (decide_eq_true h)
            walk_at "rd"
            intro l nl
            walk_at "rd"
            intro t nt
            refine fin false _ t l ((Same.new nl).trans (Same.new nt)) ?_ upd_same ((upd_ne (ne_of_none upd_same nt)).trans upd_same)
            rw [nameB_eq, decide_eq_false g1]
            rfl
      · walk_at "rd"
        intro a1 n1
        walk_at "rd"
        intro a2 n2
        walk_at "rd"
        intro a3 n3
        walk_at "rd"
        intro a4 n4
        walk_at "rd"
        intro a5 n5
        walk_at "rd"
        intro a6 n6
        refine ⟨upd_same, [(Sum.inr "a", .int 1)], rfl, by decide, ?_⟩
        refine ⟨rfl, fun a7 H7 n7 s7 x7 => ?_⟩
        refine ⟨Nat.le_of_ble_eq_true rfl, fun a8 n8 => ?_⟩
        walk_at "rd"
        have m6 : ∀ ps : HO, L2.Same (upd (upd (upd (upd (upd H1 a1 (HO.tup [])) a2 (HO.lst [])) a3 (HO.dK [])) a4 (HO.lst [V.str "a"])) a5 (HO.tup [V.str "a"])) (upd (upd (upd (upd (upd (upd (upd H1 a1 (HO.tup [])) a2 (HO.lst [])) a3 (HO.dK [])) a4 (HO.lst [V.str "a"])) a5 (HO.tup [V.str "a"])) a6 (.dK [])) a6 ps) := fun ps q o e => by
          rw [upd_ne (ne_of_none e n6), upd_ne (ne_of_none e n6)]; exact e
        have g1 : H7 a1 = some (.tup []) := s7 _ _ (m6 _ _ _ (Same.new n5 _ _ (Same.new n4 _ _ (Same.new n3 _ _ (Same.new n2 _ _ upd_same)))))
        have g2 : H7 a2 = some (.lst []) := s7 _ _ (m6 _ _ _ (Same.new n5 _ _ (Same.new n4 _ _ (Same.new n3 _ _ upd_same))))
        have g3 : H7 a3 = some (.dK []) := s7 _ _ (m6 _ _ _ (Same.new n5 _ _ (Same.new n4 _ _ upd_same)))
        have g4 : H7 a4 = some (.lst [.str "a"]) := s7 _ _ (m6 _ _ _ (Same.new n5 _ _ upd_same))
        have g5 : H7 a5 = some (.tup [.str "a"]) := s7 _ _ (m6 _ _ _ (upd_same))
        have g6 : H7 a6 = some (.dK [(Sum.inr "a", .int 1)]) := s7 _ _ upd_same
        have s17 : L2.Same H1 H7 := fun q o e => s7 _ _ (m6 _ _ _ (Same.new n5 _ _ (Same.new n4 _ _ (Same.new n3 _ _ (Same.new n2 _ _ (Same.new n1 _ _ e))))))
        refine ⟨Same.new n8 _ _ (s17 _ _ hp1), .inl ⟨a8, _, rfl, SqL.of upd_same, Nat.le_of_ble_eq_true rfl, Nat.le_of_ble_eq_true rfl, fun y H9 hy s9 => ?_⟩⟩
        walk_at "rd"
        intro l nl
        walk_at "rd"
        intro t nt
        have sx : L2.Same H9 (upd (upd H9 l (.lst [.bl false, .bl false, .bl false])) t (.tup [y, .ref l])) := (Same.new nl).trans (Same.new nt)
        have s0 : L2.Same H7 (upd (upd H9 l (.lst [.bl false, .bl false, .bl false])) t (.tup [y, .ref l])) := ((Same.new n8).trans s9).trans sx
        have hl : (upd (upd H9 l (.lst [.bl false, .bl false, .bl false])) t (.tup [y, .ref l])) l = some (.lst [.bl false, .bl false, .bl false]) := (upd_ne (ne_of_none upd_same nt)).trans upd_same
        have ss : L2.Same H (upd (upd H9 l (.lst [.bl false, .bl false, .bl false])) t (.tup [y, .ref l])) := (s1.trans s17).trans s0
        simp only [List.mem_cons, List.not_mem_nil, or_false] at hy
        rcases hy with rfl | rfl | rfl | rfl | rfl | rfl | rfl | rfl | rfl | rfl
        · exact k .non t l _ .non ss upd_same hl
        · exact k (.bl true) t l _ (.bl _) ss upd_same hl
        · exact k (.bl false) t l _ (.bl _) ss upd_same hl
        · exact k (.ref a1) t l _ (.tup0 _ (s0 _ _ g1)) ss upd_same hl
        · exact k (.ref a2) t l _ (.lst0 _ (s0 _ _ g2)) ss upd_same hl
        · exact k (.ref a3) t l _ (.dct0 _ (s0 _ _ g3)) ss upd_same hl
        · exact k (.ref a4) t l _ (.lst1 _ (s0 _ _ g4)) ss upd_same hl
        · exact k (.ref a5) t l _ (.tup1 _ (s0 _ _ g5)) ss upd_same hl
        · exact k (.ref a6) t l _ (.dct1 _ (s0 _ _ g6)) ss upd_same hl
        · exact k (.ref a7) t l _ (.exc _ (x7.same s0)) ss upd_same hl
end
end K10

set_option Elab.async false
set_option linter.all false
set_option maxRecDepth 100000
set_option maxHeartbeats 4000000
namespace K10
open PySem L2 Lay
local macro_rules | `(tactic| walk_at "ne") => `(tactic| first | assumption | (apply Ne.symm; assumption) | exact ne_of_none (by walk_at "look") (by assumption) | exact (ne_of_none (by walk_at "look") (by assumption)).symm)
local macro_rules | `(tactic| walk_at "look") => `(tactic| first | assumption | exact upd_same | (refine Eq.trans (upd_ne ?_) ?_; walk_at "ne"; walk_at "look"))
local macro_rules | `(tactic| walk_at "rds") => `(tactic| first | rfl | assumption | walk_at "look" | exact SqL.of (by walk_at "look") | exact SqT.of (by walk_at "look") | exact Or.inl (SqL.of (by walk_at "look")) | exact Or.inl (by assumption) | decide | omega | exact Nat.le_of_ble_eq_true rfl | exact Or.inr ⟨by decide, by decide⟩ | exact Or.inl ⟨by omega, by omega⟩ | exact ⟨by decide, by decide⟩)
local macro_rules | `(tactic| walk_at "rd1") => `(tactic| first | (apply Exists.intro) | (refine And.intro ?_ ?_; walk_at "rds") | (refine Or.inl ?_; apply Exists.intro; refine And.intro ?_ ?_; rfl))
local macro_rules | `(tactic| walk_at "rd") => `(tactic| repeat walk_at "rd1")
section
variable {P : Program} {w : World} {K : PySem.W.Frag} {mg : Str → Option Value} {base : Heap}
def t3 (p q r : Bool) : Str := listText [if p then "True" else "False", if q then "True" else "False", if r then "True" else "False"]
theorem sw3 {H : Hp} {a : Addr} {p q r : Bool} (h : H a = some (.lst [.bl p, .bl q, .bl r])) : Rp.Sw K H [a] (.ref a) (t3 p q r) :=
  .lst h (.cons (.bl _) (.cons (.bl _) (.cons (.bl _) .nil))) (by simp)
theorem t3_len (p q r : Bool) : (listText [t3 p q r, t3 p q r]).length ≤ sizeLine := by
  cases p <;> cases q <;> cases r <;> decide +kernel
def spTrue : Sp := fun vs H Q _ => ∃ p : Addr, vs = [.ref p] ∧ H p = some (PotO p) ∧ ∀ H', L2.Same H H' → Q (.bl true) H'
theorem d_basics (T : Txt K mg) : Df P w K mg base 4 "_law_basics_right" ["_law_pot_here"] spTrue := by
  have D_l_thing := d_thing (P := P) (w := w) (base := base) T
  have D_is_integer := d_is_integer (P := P) (w := w) (base := base) T
  have D_is_count := d_is_count (P := P) (w := w) (base := base) T
  have D_is_name := d_is_name (P := P) (w := w) (base := base) T
  refine T.S_l_basics_right.by sc_l_basics_right (fun vs H Q E h => ?_) (fun f cdv A outer s H vs Q E hr hgd h => ?_)
  · obtain ⟨p, rfl, _⟩ := h; rfl
  · obtain ⟨p, rfl, hp, k⟩ := h
    refine ⟨_, (pss_cons (ps_asg (pe_own D_l_thing (hr.mono (by first | decide | omega)) hgd (pa_cons (pv 0) pa_nil)) (pg_tup rfl (pgs_cons (pg_name (i := 1) sc_l_basics_right.nd rfl (by first | exact Or.inl rfl | exact Or.inr rfl)) (pgs_cons (pg_name (i := 2) sc_l_basics_right.nd rfl (by first | exact Or.inl rfl | exact Or.inr rfl)) pgs_nil))))
      (pss_cons (ps_for PassesOwn.never rfl (pi_range1 (by rfl) T.n_range (pa_cons pe_int pa_nil)) (pg_name (i := 3) sc_l_basics_right.nd rfl (by first | exact Or.inl rfl | exact Or.inr rfl)) (pss_cons (ps_set (i := 4) sc_l_basics_right.nd rfl (by first | exact Or.inl rfl | exact Or.inr rfl) (pe_lst (pa_cons (pe_own D_is_integer (hr.mono (by first | decide | omega)) hgd (pa_cons (pv 1) pa_nil)) (pa_cons (pe_own D_is_count (hr.mono (by first | decide | omega)) hgd (pa_cons (pv 1) pa_nil)) (pa_cons (pe_own D_is_name (hr.mono (by first | decide | omega)) hgd (pa_cons (pv 1) pa_nil)) pa_nil)))))
      (pss_cons (ps_set (i := 5) sc_l_basics_right.nd rfl (by first | exact Or.inl rfl | exact Or.inr rfl) (pe_lst (pa_cons (pe_own1K D_is_integer (hr.mono (by first | decide | omega)) hgd (pk_cons (pv 1) pk_nil)) (pa_cons (pe_own1K D_is_count (hr.mono (by first | decide | omega)) hgd (pk_cons (pv 1) pk_nil)) (pa_cons (pe_own1K D_is_name (hr.mono (by first | decide | omega)) hgd (pk_cons (pv 1) pk_nil)) pa_nil)))))
      (pss_one (ps_if (pt_cmpR op_ne (pe_callB (Rp.call_repr hgd (un200 hr)) (by rfl) T.n_repr (by decide +kernel) (pa_cons (pe_lst (pa_cons (pv 4) (pa_cons (pv 5) pa_nil))) pa_nil)) (pe_callB (Rp.call_repr hgd (un200 hr)) (by rfl) T.n_repr (by decide +kernel) (pa_cons (pe_lst (pa_cons (pv 2) (pa_cons (pv 2) pa_nil))) pa_nil)) (nomark _)) (pss_one (ps_ret pe_bl)) pss_nil)))))
      (pss_one (ps_ret pe_bl)))), ?_⟩
    walk_at "rd"
    intro x t l H1 hx s1 ht hl
    walk_at "rd"
    refine Exists.choose_spec (for_range (lo := 0) (n := 2) (fun i σ' H' => (∃ a b c, σ' = [some (.ref p), some x, some (.ref l), a, b, c]) ∧ L2.Same H1 H') ⟨⟨_, _, _, rfl⟩, L2.Same.refl _⟩ (fun i σ' H2 hi ⟨⟨a, b, c, e⟩, s2⟩ => ?_) (fun σ' H2 ⟨⟨a, b, c, e⟩, s2⟩ => ?_))
    rotate_left 1
    · subst e
      have hx2 := hx.same s2
      have hl2 := s2 _ _ hl
      walk_at "rd"
      intro H3 s3
      walk_at "rd"
      intro a1 n1
      have h1 : (upd H3 a1 (.lst [.bl (dueI x), .bl (dueC x), .bl (dueN x)])) a1 = some (.lst [.bl (dueI x), .bl (dueC x), .bl (dueN x)]) := upd_same
      have s3' := s3.trans (Same.new (o := .lst [.bl (dueI x), .bl (dueC x), .bl (dueN x)]) n1)
      have hx3 := hx2.same s3'
      have hl3 := s3' _ _ hl2
      walk_at "rd"
      intro H4 s4
      walk_at "rd"
      intro a2 n2
      have h12 := Same.new (o := .lst [.bl (dueI x), .bl (dueC x), .bl (dueN x)]) n2 _ _ (s4 _ _ h1)
      have h2 : (upd H4 a2 (.lst [.bl (dueI x), .bl (dueC x), .bl (dueN x)])) a2 = some (.lst [.bl (dueI x), .bl (dueC x), .bl (dueN x)]) := upd_same
      have hl4 := Same.new (o := .lst [.bl (dueI x), .bl (dueC x), .bl (dueN x)]) n2 _ _ (s4 _ _ hl3)
      have s4' := (s3'.trans s4).trans (Same.new (o := .lst [.bl (dueI x), .bl (dueC x), .bl (dueN x)]) n2)
      generalize (upd H4 a2 (.lst [.bl (dueI x), .bl (dueC x), .bl (dueN x)])) = H5 at *
      walk_at "rd"
      intro a3 n3
      refine ⟨a3, [a1] ++ ([a2] ++ []), _, [t3 (dueI x) (dueC x) (dueN x), t3 (dueI x) (dueC x) (dueN x)], rfl, upd_same, ?_, by simp, ?_, by simp, t3_len _ _ _, ?_⟩
      · exact .cons (sw3 (Same.new n3 _ _ h12)) (.cons (sw3 (Same.new n3 _ _ h2)) .nil)
      · intro z
        rcases List.mem_append.mp z with z | z
        · exact ne_of_none h12 n3 (List.mem_singleton.mp z).symm
        · exact ne_of_none h2 n3 (List.mem_singleton.mp (by simpa using z)).symm
      walk_at "rd"
      intro a4 n4
      refine ⟨a4, [l] ++ ([l] ++ []), _, [t3 (dueI x) (dueC x) (dueN x), t3 (dueI x) (dueC x) (dueN x)], rfl, upd_same, ?_, by simp, ?_, by simp, t3_len _ _ _, ?_⟩
      · exact .cons (sw3 (Same.new n4 _ _ (Same.new n3 _ _ hl4))) (.cons (sw3 (Same.new n4 _ _ (Same.new n3 _ _ hl4))) .nil)
      · intro z
        have : a4 = l := by simpa using z
        exact ne_of_none (Same.new n3 _ _ hl4) n4 this.symm
      walk_at "rd"
      refine ite2 (fun c => ?_) (fun _ => ?_)
      · exact absurd c (by rw [decide_eq_true rfl]; decide)
      · exact ⟨⟨_, _, _, rfl⟩, s2.trans (s4'.trans ((Same.new n3).trans (Same.new n4)))⟩
    · subst e
      walk_at "rd"
      exact k _ (s1.trans s2)
end
end K10

set_option Elab.async false
set_option linter.all false
set_option maxRecDepth 100000
set_option maxHeartbeats 4000000
namespace K10
open PySem L2 Lay
local macro_rules | `(tactic| walk_at "ne") => `(tactic| first | assumption | (apply Ne.symm; assumption) | exact ne_of_none (by walk_at "look") (by assumption) | exact (ne_of_none (by walk_at "look") (by assumption)).symm)
local macro_rules | `(tactic| walk_at "look") => `(tactic| first | assumption | exact upd_same | (refine Eq.trans (upd_ne ?_) ?_; walk_at "ne"; walk_at "look"))
local macro_rules | `(tactic| walk_at "rds") => `(tactic| first | rfl | assumption | walk_at "look" | exact SqL.of (by walk_at "look") | exact SqT.of (by walk_at "look") | exact Or.inl (SqL.of (by walk_at "look")) | exact Or.inl (by assumption) | decide | omega | exact Nat.le_of_ble_eq_true rfl | exact Or.inr ⟨by decide, by decide⟩ | exact Or.inl ⟨by omega, by omega⟩ | exact ⟨by decide, by decide⟩)
local macro_rules | `(tactic| walk_at "rd1") => `(tactic| first | (apply Exists.intro) | (refine And.intro ?_ ?_; walk_at "rds") | (refine Or.inl ?_; apply Exists.intro; refine And.intro ?_ ?_; rfl))
local macro_rules | `(tactic| walk_at "rd") => `(tactic| repeat walk_at "rd1")
/-- a row (error, its part, its branch) -/
def Row (K : PySem.W.Frag) (H : Hp) (x r : V) : Prop := ∃ (T e : Addr) (i : Nat) (fs : List (Str × V)) (args : List V), r = .ref T ∧ i < 33 ∧ H T = some (.tup [.ref e, x, .int (brI i)]) ∧ Exv.IsExc H e (He.ga K (leafN i)) fs args
/-- an error with the field f -/
def Good (K : PySem.W.Frag) (H : Hp) (f : Str) (b : Int) (x y : V) : Prop := ∃ (e : Addr) (i : Nat) (fs : List (Str × V)) (args : List V), y = .ref e ∧ i < 33 ∧ (brI i : Int) = b ∧ Exv.IsExc H e (He.ga K (leafN i)) fs args ∧
  (∃ newId bmB, Exv.Cl K (He.ga K (leafN i)) newId bmB) ∧ PySem.W.findIn K (.ref (He.ga K (leafN i))) f = some none ∧ fs.lookup f = some x
theorem exc_mut {H : Hp} {l e C : Addr} {xs ys : List V} {fs : List (Str × V)} {args : List V} (hl : H l = some (.lst xs)) (h : Exv.IsExc H e C fs args) : Exv.IsExc (upd H l (.lst ys)) e C fs args := by
  obtain ⟨t, ht, h⟩ := h
  have ne : ∀ {a : Addr} {o : HO}, H a = some o → (∀ zs, o ≠ .lst zs) → (upd H l (.lst ys)) a = some o := fun {a o} ha hn => by
    rw [upd_ne]; exact ha
    intro q
    rw [q, hl] at ha
    exact hn _ (Option.some.inj ha).symm
  refine ⟨t, ne ht (fun _ z => by cases z), ?_⟩
  rcases h with ⟨z, h⟩ | ⟨d, h, hd⟩
  · exact .inl ⟨z, ne h (fun _ z => by cases z)⟩
  · exact .inr ⟨d, ne h (fun _ z => by cases z), ne hd (fun _ z => by cases z)⟩
theorem Row.mut {K : PySem.W.Frag} {H : Hp} {l : Addr} {xs ys : List V} {x r : V} (hl : H l = some (.lst xs)) (h : Row K H x r) : Row K (upd H l (.lst ys)) x r := by
  obtain ⟨T, e, i, fs, args, rfl, hi, ht, he⟩ := h
  refine ⟨T, e, i, fs, args, rfl, hi, ?_, exc_mut hl he⟩
  rw [upd_ne]; exact ht
  intro q
  rw [q, hl] at ht
  cases ht
theorem Row.same {K : PySem.W.Frag} {H H' : Hp} {x r : V} (s : L2.Same H H') (h : Row K H x r) : Row K H' x r := by
  obtain ⟨T, e, i, fs, args, rfl, hi, ht, he⟩ := h
  exact ⟨T, e, i, fs, args, rfl, hi, s _ _ ht, he.same s⟩
theorem Good.mut {K : PySem.W.Frag} {H : Hp} {l : Addr} {xs ys : List V} {f : Str} {b : Int} {x y : V} (hl : H l = some (.lst xs)) (h : Good K H f b x y) : Good K (upd H l (.lst ys)) f b x y := by
  obtain ⟨e, i, fs, args, h1, h2, h3, h4, h5⟩ := h
  exact ⟨e, i, fs, args, h1, h2, h3, exc_mut hl h4, h5⟩
theorem Good.same {K : PySem.W.Frag} {H H' : Hp} {f : Str} {b : Int} {x y : V} (s : L2.Same H H') (h : Good K H f b x y) : Good K H' f b x y := by
  obtain ⟨e, i, fs, args, h1, h2, h3, h4, h5⟩ := h
  exact ⟨e, i, fs, args, h1, h2, h3, h4.same s, h5⟩
theorem ty_lst {K : PySem.W.Frag} {H : Hp} {l : Addr} {xs : List V} (h : H l = some (.lst xs)) : tyV K "list" (.ref l) H := .inl ⟨rfl, xs, SqL.of h⟩
section
variable {P : Program} {w : World} {K : PySem.W.Frag} {mg : Str → Option Value} {base : Heap}
/-- one row more at the list -/
theorem row_app {H H0 : Hp} {l : Addr} {rs : List V} {x : V} {Qd : V → Hp → Prop} {f : Str} {b : Int} {e : V} (hl : H l = some (.lst rs)) (hr : ∀ r ∈ rs, Row K H x r) (len : rs.length ≤ 100) (nl : H0 l = none) (s0 : L2.Same H0 H) (g : Good K H f b x e)
    (k : ∀ H' rs', L2.Same H0 H' → H' l = some (.lst rs') → rs'.length = rs.length + 1 → (∀ r ∈ rs', Row K H' x r) → (∀ a xs, a ≠ l → H a = some (.lst xs) → H' a = some (.lst xs)) → (∀ f b y, Good K H f b x y → Good K H' f b x y) → Qd .non H') :
    ∀ T, H T = none → rAppend (.ref l) [.ref T] (upd H T (.tup [e, x, .int b])) Qd := by
  intro T nT
  have sT : L2.Same H (upd H T (.tup [e, x, .int b])) := Same.new nT
  have hl' := sT _ _ hl
  refine ⟨l, rs, .ref T, rfl, rfl, hl', Nat.lt_of_le_of_lt len (by decide), ?_⟩
  refine k _ (rs ++ [.ref T]) (Same.mut (s0.trans sT) nl) upd_same (by simp) (fun r h => ?_) (fun a xs na h => ?_) (fun f b y h => Good.mut hl' (h.same sT))
  · rcases List.mem_append.mp h with h | h
    · exact Row.mut hl' ((hr r h).same sT)
    · obtain rfl := List.mem_singleton.mp h
      obtain ⟨e', i, fs, args, rfl, hi, rfl, h4, h5⟩ := g
      exact Row.mut hl' ⟨T, e', i, fs, args, rfl, hi, upd_same, h4.same sT⟩
  · rw [upd_ne na]
    exact sT _ _ h
/-- the loop over new errors -/
theorem loop {H H0 : Hp} {a l : Addr} {ys rs : List V} {x : V} {y0 : Option V} {f : Str} {b : Int} {D : Ends} (ha : H a = some (.lst ys)) (na : a ≠ l) (hl : H l = some (.lst rs)) (hy : ∀ y ∈ ys, Good K H f b x y) (hr : ∀ r ∈ rs, Row K H x r)
    (len : rs.length + ys.length ≤ 60) (s0 : L2.Same H0 H) (nl : H0 l = none)
    (k : ∀ H' rs' y0, H' l = some (.lst rs') → rs'.length = rs.length + ys.length → (∀ r ∈ rs', Row K H' x r) → L2.Same H0 H' → D.nx [some x, some (.ref l), y0] H') :
    ∃ W : Nat → Nat → L2.St → Hp → Prop, (∃ m, W 0 m [some x, some (.ref l), y0] H) ∧ ∀ i m σ H, W i m σ H →
      ((Itl K a).stop i H ∧ D.nx σ H) ∨ ((Itl K a).go i H ∧ ∃ N : L2.St → Hp → Prop, (∀ σ' H', N σ' H' → ∃ m', m' < m ∧ W (i + 1) m' σ' H') ∧ ∀ x H', (Itl K a).yld i H x H' → gName 2 x σ H' fun σ2 H2 =>
        tDrop (tBM K "list" rAppend (tVar 1) (tCons (tTup (tCons (tVar 2) (tCons (Exv.tAt K f (tVar 2)) (tCons (tC (.int b)) tNil)))) tNil)) { D with nx := N, ct := N, bk := D.nx } σ2 H2) := by
  refine for_list (xs := ys) (fun i σ H' => ∃ y0 rs', σ = [some x, some (.ref l), y0] ∧ H' l = some (.lst rs') ∧ rs'.length = rs.length + i ∧ (∀ r ∈ rs', Row K H' x r) ∧ L2.Same H0 H' ∧ H' a = some (.lst ys) ∧ ∀ y ∈ ys, Good K H' f b x y) ?_ ?_ ?_ ?_
  · exact ⟨y0, rs, rfl, hl, rfl, hr, s0, ha, hy⟩
  · intro i σ H' hi ⟨y0, rs', e, h1, h2, h3, h4, h5, h6⟩
    exact SqL.of h5
  · intro i y σ H' hi ⟨y0, rs', e, h1, h2, h3, h4, h5, h6⟩
    subst e
    have hlt : i < ys.length := (List.getElem?_eq_some_iff.mp hi).1
    have g := h6 y (List.mem_of_getElem? hi)
    refine ⟨_, rfl, ty_lst h1, y, rfl, y, rfl, ?_⟩
    have g' := g
    obtain ⟨e, j, fs, args, rfl, hj, hb, ge, gc, gf, gl⟩ := g
    refine ⟨e, _, fs, args, x, rfl, ge, gc, gf, gl, Nat.le_of_ble_eq_true rfl, ?_⟩
    intro T nT
    unfold tNil
    refine row_app h1 h3 (by omega) nl h4 g' (fun H2 rs2 q1 q2 q3 q4 q5 q6 => ?_) T nT
    exact ⟨_, rs2, rfl, q2, by omega, q4, q1, q5 _ _ na h5, fun y hy => q6 _ _ _ (h6 y hy)⟩
  · intro σ H' ⟨y0, rs', e, h1, h2, h3, h4, h5, h6⟩
    subst e
    exact k H' rs' y0 h1 h2 h3 h4
def spSingles (K : PySem.W.Frag) : Sp := fun vs H Q _ => ∃ x, vs = [x] ∧ ∀ H' l rs, L2.Same H H' → H' l = some (.lst rs) → rs.length = 28 → (∀ r ∈ rs, Row K H' x r) → Q (.ref l) H'
theorem d_singles (T : Txt K mg) : Df P w K mg base 3 "_law_singles" ["_law_thing_here"] (spSingles K) := by
  refine T.S_l_singles.by sc_l_singles (fun vs H Q E h => ?_) (fun f cdv A outer s H vs Q E hr hgd h => ?_)
  · obtain ⟨x, rfl, _⟩ := h; rfl
  · obtain ⟨x, rfl, k⟩ := h
    refine ⟨_, (pss_cons (ps_set (i := 1) sc_l_singles.nd rfl (by first | exact Or.inl rfl | exact Or.inr rfl) (pe_lst pa_nil))
      (pss_cons (ps_for PassesOwn.never rfl (pi_list (pe_lst (pa_cons (Exv.pe_mk Exv.bsV (T.e_InvalidEntries _ _ _) (by decide) (hr.mono (by first | decide | omega)) (pa_cons (pv 0) pa_nil)) (pa_cons (Exv.pe_mk Exv.bsV (T.e_InvalidNames _ _ _) (by decide) (hr.mono (by first | decide | omega)) (pa_cons (pv 0) pa_nil)) (pa_cons (Exv.pe_mk Exv.bsV (T.e_InvalidLines _ _ _) (by decide) (hr.mono (by first | decide | omega)) (pa_cons (pv 0) pa_nil)) (pa_cons (Exv.pe_mk Exv.bsV (T.e_InvalidSet _ _ _) (by decide) (hr.mono (by first | decide | omega)) (pa_cons (pv 0) pa_nil)) pa_nil)))))) (pg_name (i := 2) sc_l_singles.nd rfl (by first | exact Or.inl rfl | exact Or.inr rfl)) (pss_one (ps_expr (pe_bm PySem.F.plainAttrs_list PySem.F.slot_list_append PySem.F.type_list_append mt_append (pv 1) (pa_cons (pe_tup (pa_cons (pv 2) (pa_cons (Exv.pe_at (pv 2)) (pa_cons pe_int pa_nil)))) pa_nil)))))
      (pss_cons (ps_expr (pe_bm PySem.F.plainAttrs_list PySem.F.slot_list_append PySem.F.type_list_append mt_append (pv 1) (pa_cons (pe_tup (pa_cons (Exv.pe_mkK Exv.bsV (T.e_InvalidMarks _ _ _) rfl (hr.mono (by first | decide | omega)) (pk_cons (pv 0) pk_nil)) (pa_cons (Exv.pe_at (Exv.pe_mk Exv.bsV (T.e_InvalidMarks _ _ _) (by decide) (hr.mono (by first | decide | omega)) (pa_cons (pv 0) pa_nil))) (pa_cons pe_int pa_nil)))) pa_nil)))
      (pss_cons (ps_for PassesOwn.never rfl (pi_list (pe_lst (pa_cons (Exv.pe_mk Exv.bsV (T.e_InvalidKinds _ _ _) (by decide) (hr.mono (by first | decide | omega)) (pa_cons (pv 0) pa_nil)) (pa_cons (Exv.pe_mk Exv.bsV (T.e_InvalidRenaming _ _ _) (by decide) (hr.mono (by first | decide | omega)) (pa_cons (pv 0) pa_nil)) (pa_cons (Exv.pe_mk Exv.bsV (T.e_InvalidSize _ _ _) (by decide) (hr.mono (by first | decide | omega)) (pa_cons (pv 0) pa_nil)) (pa_cons (Exv.pe_mk Exv.bsV (T.e_InvalidChoice _ _ _) (by decide) (hr.mono (by first | decide | omega)) (pa_cons (pv 0) pa_nil)) pa_nil)))))) (pg_name (i := 2) sc_l_singles.nd rfl (by first | exact Or.inl rfl | exact Or.inr rfl)) (pss_one (ps_expr (pe_bm PySem.F.plainAttrs_list PySem.F.slot_list_append PySem.F.type_list_append mt_append (pv 1) (pa_cons (pe_tup (pa_cons (pv 2) (pa_cons (Exv.pe_at (pv 2)) (pa_cons pe_int pa_nil)))) pa_nil)))))
      (pss_cons (ps_for PassesOwn.never rfl (pi_list (pe_lst (pa_cons (Exv.pe_mk Exv.bsV (T.e_InvalidHeight _ _ _) (by decide) (hr.mono (by first | decide | omega)) (pa_cons (pv 0) pa_nil)) (pa_cons (Exv.pe_mk Exv.bsV (T.e_InvalidPeriod _ _ _) (by decide) (hr.mono (by first | decide | omega)) (pa_cons (pv 0) pa_nil)) (pa_cons (Exv.pe_mk Exv.bsV (T.e_InvalidPartners _ _ _) (by decide) (hr.mono (by first | decide | omega)) (pa_cons (pv 0) pa_nil)) (pa_cons (Exv.pe_mk Exv.bsV (T.e_InvalidColumn _ _ _) (by decide) (hr.mono (by first | decide | omega)) (pa_cons (pv 0) pa_nil)) pa_nil)))))) (pg_name (i := 2) sc_l_singles.nd rfl (by first | exact Or.inl rfl | exact Or.inr rfl)) (pss_one (ps_expr (pe_bm PySem.F.plainAttrs_list PySem.F.slot_list_append PySem.F.type_list_append mt_append (pv 1) (pa_cons (pe_tup (pa_cons (pv 2) (pa_cons (Exv.pe_at (pv 2)) (pa_cons pe_int pa_nil)))) pa_nil)))))
      (pss_cons (ps_for PassesOwn.never rfl (pi_list (pe_lst (pa_cons (Exv.pe_mk Exv.bsV (T.e_InvalidState _ _ _) (by decide) (hr.mono (by first | decide | omega)) (pa_cons (pv 0) pa_nil)) (pa_cons (Exv.pe_mk Exv.bsV (T.e_InvalidLength _ _ _) (by decide) (hr.mono (by first | decide | omega)) (pa_cons (pv 0) pa_nil)) (pa_cons (Exv.pe_mk Exv.bsV (T.e_InvalidClaim _ _ _) (by decide) (hr.mono (by first | decide | omega)) (pa_cons (pv 0) pa_nil)) pa_nil))))) (pg_name (i := 2) sc_l_singles.nd rfl (by first | exact Or.inl rfl | exact Or.inr rfl)) (pss_one (ps_expr (pe_bm PySem.F.plainAttrs_list PySem.F.slot_list_append PySem.F.type_list_append mt_append (pv 1) (pa_cons (pe_tup (pa_cons (pv 2) (pa_cons (Exv.pe_at (pv 2)) (pa_cons pe_int pa_nil)))) pa_nil)))))
      (pss_cons (ps_for PassesOwn.never rfl (pi_list (pe_lst (pa_cons (Exv.pe_mk Exv.bsV (T.e_InvalidWay _ _ _) (by decide) (hr.mono (by first | decide | omega)) (pa_cons (pv 0) pa_nil)) (pa_cons (Exv.pe_mk Exv.bsV (T.e_InvalidCommand _ _ _) (by decide) (hr.mono (by first | decide | omega)) (pa_cons (pv 0) pa_nil)) pa_nil)))) (pg_name (i := 2) sc_l_singles.nd rfl (by first | exact Or.inl rfl | exact Or.inr rfl)) (pss_one (ps_expr (pe_bm PySem.F.plainAttrs_list PySem.F.slot_list_append PySem.F.type_list_append mt_append (pv 1) (pa_cons (pe_tup (pa_cons (pv 2) (pa_cons (Exv.pe_at (pv 2)) (pa_cons pe_int pa_nil)))) pa_nil)))))
      (pss_cons (ps_expr (pe_bm PySem.F.plainAttrs_list PySem.F.slot_list_append PySem.F.type_list_append mt_append (pv 1) (pa_cons (pe_tup (pa_cons (Exv.pe_mkK Exv.bsV (T.e_InvalidText _ _ _) rfl (hr.mono (by first | decide | omega)) (pk_cons (pv 0) pk_nil)) (pa_cons (Exv.pe_at (Exv.pe_mk Exv.bsV (T.e_InvalidText _ _ _) (by decide) (hr.mono (by first | decide | omega)) (pa_cons (pv 0) pa_nil))) (pa_cons pe_int pa_nil)))) pa_nil)))
      (pss_cons (ps_for PassesOwn.never rfl (pi_list (pe_lst (pa_cons (Exv.pe_mk Exv.bsL (T.e_UnknownName _ _ _) (by decide) (hr.mono (by first | decide | omega)) (pa_cons (pv 0) pa_nil)) (pa_cons (Exv.pe_mkK Exv.bsL (T.e_UnknownKind _ _ _) rfl (hr.mono (by first | decide | omega)) (pk_cons (pv 0) pk_nil)) (pa_cons (Exv.pe_mk Exv.bsL (T.e_UnknownCell _ _ _) (by decide) (hr.mono (by first | decide | omega)) (pa_cons (pv 0) pa_nil)) (pa_cons (Exv.pe_mk Exv.bsL (T.e_UnknownLine _ _ _) (by decide) (hr.mono (by first | decide | omega)) (pa_cons (pv 0) pa_nil)) pa_nil)))))) (pg_name (i := 2) sc_l_singles.nd rfl (by first | exact Or.inl rfl | exact Or.inr rfl)) (pss_one (ps_expr (pe_bm PySem.F.plainAttrs_list PySem.F.slot_list_append PySem.F.type_list_append mt_append (pv 1) (pa_cons (pe_tup (pa_cons (pv 2) (pa_cons (Exv.pe_at (pv 2)) (pa_cons pe_int pa_nil)))) pa_nil)))))
      (pss_cons (ps_for PassesOwn.never rfl (pi_list (pe_lst (pa_cons (Exv.pe_mk Exv.bsR (T.e_KindTaken _ _ _) (by decide) (hr.mono (by first | decide | omega)) (pa_cons (pv 0) pa_nil)) (pa_cons (Exv.pe_mkK Exv.bsR (T.e_NotFlat _ _ _) rfl (hr.mono (by first | decide | omega)) (pk_cons (pv 0) pk_nil)) (pa_cons (Exv.pe_mk Exv.bsR (T.e_Marked _ _ _) (by decide) (hr.mono (by first | decide | omega)) (pa_cons (pv 0) pa_nil)) (pa_cons (Exv.pe_mk Exv.bsR (T.e_WrongTurn _ _ _) (by decide) (hr.mono (by first | decide | omega)) (pa_cons (pv 0) pa_nil)) pa_nil)))))) (pg_name (i := 2) sc_l_singles.nd rfl (by first | exact Or.inl rfl | exact Or.inr rfl)) (pss_one (ps_expr (pe_bm PySem.F.plainAttrs_list PySem.F.slot_list_append PySem.F.type_list_append mt_append (pv 1) (pa_cons (pe_tup (pa_cons (pv 2) (pa_cons (Exv.pe_at (pv 2)) (pa_cons pe_int pa_nil)))) pa_nil)))))
      (pss_one (ps_ret (pe_op op_cat (pv 1) (pe_lst (pa_cons (pe_tup (pa_cons (Exv.pe_mkK Exv.bsR (T.e_CommandFailed _ _ _) rfl (hr.mono (by first | decide | omega)) (pk_cons (pv 0) pk_nil)) (pa_cons (Exv.pe_at (Exv.pe_mk Exv.bsR (T.e_CommandFailed _ _ _) (by decide) (hr.mono (by first | decide | omega)) (pa_cons (pv 0) pa_nil))) (pa_cons pe_int pa_nil)))) pa_nil))))))))))))))), ?_⟩
    walk_at "rd"
    intro l nl
    have hl0 : (upd H l (.lst [])) l = some (.lst []) := upd_same
    have s0 : L2.Same H (upd H l (.lst [])) := Same.new nl
    have r0 : ∀ r ∈ ([] : List V), Row K (upd H l (.lst [])) x r := fun r h => by simp at h
    generalize (upd H l (.lst [])) = H0 at *
    walk_at "rd"
    intro e1_0 H1_0 n1_0 s1_0 x1_0
    walk_at "rd"
    intro e1_1 H1_1 n1_1 s1_1 x1_1
    walk_at "rd"
    intro e1_2 H1_2 n1_2 s1_2 x1_2
    walk_at "rd"
    intro e1_3 H1_3 n1_3 s1_3 x1_3
    walk_at "rd"
    intro a1 m1
    have z1 : L2.Same H0 (upd H1_3 a1 (.lst [V.ref e1_0, V.ref e1_1, V.ref e1_2, V.ref e1_3])) := (s1_0.trans (s1_1.trans (s1_2.trans (s1_3.trans (Same.new m1)))))
    refine ⟨a1, rfl, ⟨_, SqL.of upd_same⟩, loop (f := "position") (b := 0) (H0 := H) (x := x) (ys := [V.ref e1_0, V.ref e1_1, V.ref e1_2, V.ref e1_3]) upd_same ?_ (z1 _ _ hl0) ?_ (fun r h => (r0 r h).same z1) ?_ (s0.trans z1) nl fun G1 rs1 y1 hl1 c1 r1 s1 => ?_⟩
    · exact fun q => ne_of_none ((s1_0.trans (s1_1.trans (s1_2.trans s1_3))) _ _ hl0) m1 q.symm
    · intro y hy
      simp only [List.mem_cons, List.not_mem_nil, or_false] at hy
      rcases hy with rfl | rfl | rfl | rfl
      · exact ⟨_, 0, _, _, rfl, by decide, rfl, x1_0.same (s1_1.trans (s1_2.trans (s1_3.trans (Same.new m1)))), ⟨_, _, (T.e_InvalidEntries P w base).cl⟩, T.no_InvalidEntries_position, rfl⟩
      · exact ⟨_, 1, _, _, rfl, by decide, rfl, x1_1.same (s1_2.trans (s1_3.trans (Same.new m1))), ⟨_, _, (T.e_InvalidNames P w base).cl⟩, T.no_InvalidNames_position, rfl⟩
      · exact ⟨_, 5, _, _, rfl, by decide, rfl, x1_2.same (s1_3.trans (Same.new m1)), ⟨_, _, (T.e_InvalidLines P w base).cl⟩, T.no_InvalidLines_position, rfl⟩
      · exact ⟨_, 6, _, _, rfl, by decide, rfl, x1_3.same (Same.new m1), ⟨_, _, (T.e_InvalidSet P w base).cl⟩, T.no_InvalidSet_position, rfl⟩
    · simp only [List.length_cons, List.length_nil]; omega
    replace c1 : rs1.length = 4 := by simpa [] using c1
    walk_at "rd"
    refine ⟨ty_lst hl1, ?_⟩
    walk_at "rd"
    intro e2_0 H2_0 n2_0 s2_0 x2_0
    walk_at "rd"
    intro e2_1 H2_1 n2_1 s2_1 x2_1
    refine ⟨_, _, _, _, x, rfl, x2_1, ⟨_, _, (T.e_InvalidMarks P w base).cl⟩, T.no_InvalidMarks_position, rfl, ?_⟩
    walk_at "rd"
    intro T2 nT2
    have z2 := s2_0.trans s2_1
    try unfold tNil
    refine row_app (H0 := H) (f := "position") (b := 0) (z2 _ _ hl1) (fun r h => (r1 r h).same z2) (by omega) nl (s1.trans z2) ⟨_, 8, _, _, rfl, by decide, rfl, x2_0.same s2_1, ⟨_, _, (T.e_InvalidMarks P w base).cl⟩, T.no_InvalidMarks_position, rfl⟩ (fun G2 rs2 s2 hl2 c2 r2 _ _ => ?_) T2 nT2
    replace c2 : rs2.length = 5 := by omega
    walk_at "rd"
    intro e3_0 H3_0 n3_0 s3_0 x3_0
    walk_at "rd"
    intro e3_1 H3_1 n3_1 s3_1 x3_1
    walk_at "rd"
    intro e3_2 H3_2 n3_2 s3_2 x3_2
    walk_at "rd"
    intro e3_3 H3_3 n3_3 s3_3 x3_3
    walk_at "rd"
    intro a3 m3
    have z3 : L2.Same G2 (upd H3_3 a3 (.lst [V.ref e3_0, V.ref e3_1, V.ref e3_2, V.ref e3_3])) := (s3_0.trans (s3_1.trans (s3_2.trans (s3_3.trans (Same.new m3)))))
    refine ⟨a3, rfl, ⟨_, SqL.of upd_same⟩, loop (f := "value") (b := 0) (H0 := H) (x := x) (ys := [V.ref e3_0, V.ref e3_1, V.ref e3_2, V.ref e3_3]) upd_same ?_ (z3 _ _ hl2) ?_ (fun r h => (r2 r h).same z3) ?_ (s2.trans z3) nl fun G3 rs3 y3 hl3 c3 r3 s3 => ?_⟩
    · exact fun q => ne_of_none ((s3_0.trans (s3_1.trans (s3_2.trans s3_3))) _ _ hl2) m3 q.symm
    · intro y hy
      simp only [List.mem_cons, List.not_mem_nil, or_false] at hy
      rcases hy with rfl | rfl | rfl | rfl
      · exact ⟨_, 2, _, _, rfl, by decide, rfl, x3_0.same (s3_1.trans (s3_2.trans (s3_3.trans (Same.new m3)))), ⟨_, _, (T.e_InvalidKinds P w base).cl⟩, T.no_InvalidKinds_value, rfl⟩
      · exact ⟨_, 3, _, _, rfl, by decide, rfl, x3_1.same (s3_2.trans (s3_3.trans (Same.new m3))), ⟨_, _, (T.e_InvalidRenaming P w base).cl⟩, T.no_InvalidRenaming_value, rfl⟩
      · exact ⟨_, 4, _, _, rfl, by decide, rfl, x3_2.same (s3_3.trans (Same.new m3)), ⟨_, _, (T.e_InvalidSize P w base).cl⟩, T.no_InvalidSize_value, rfl⟩
      · exact ⟨_, 7, _, _, rfl, by decide, rfl, x3_3.same (Same.new m3), ⟨_, _, (T.e_InvalidChoice P w base).cl⟩, T.no_InvalidChoice_value, rfl⟩
    · simp only [List.length_cons, List.length_nil]; omega
    replace c3 : rs3.length = 9 := by simpa [c2] using c3
    walk_at "rd"
    intro e4_0 H4_0 n4_0 s4_0 x4_0
    walk_at "rd"
    intro e4_1 H4_1 n4_1 s4_1 x4_1
    walk_at "rd"
    intro e4_2 H4_2 n4_2 s4_2 x4_2
    walk_at "rd"
    intro e4_3 H4_3 n4_3 s4_3 x4_3
    walk_at "rd"
    intro a4 m4
    have z4 : L2.Same G3 (upd H4_3 a4 (.lst [V.ref e4_0, V.ref e4_1, V.ref e4_2, V.ref e4_3])) := (s4_0.trans (s4_1.trans (s4_2.trans (s4_3.trans (Same.new m4)))))
    refine ⟨a4, rfl, ⟨_, SqL.of upd_same⟩, loop (f := "value") (b := 0) (H0 := H) (x := x) (ys := [V.ref e4_0, V.ref e4_1, V.ref e4_2, V.ref e4_3]) upd_same ?_ (z4 _ _ hl3) ?_ (fun r h => (r3 r h).same z4) ?_ (s3.trans z4) nl fun G4 rs4 y4 hl4 c4 r4 s4 => ?_⟩
    · exact fun q => ne_of_none ((s4_0.trans (s4_1.trans (s4_2.trans s4_3))) _ _ hl3) m4 q.symm
    · intro y hy
      simp only [List.mem_cons, List.not_mem_nil, or_false] at hy
      rcases hy with rfl | rfl | rfl | rfl
      · exact ⟨_, 9, _, _, rfl, by decide, rfl, x4_0.same (s4_1.trans (s4_2.trans (s4_3.trans (Same.new m4)))), ⟨_, _, (T.e_InvalidHeight P w base).cl⟩, T.no_InvalidHeight_value, rfl⟩
      · exact ⟨_, 10, _, _, rfl, by decide, rfl, x4_1.same (s4_2.trans (s4_3.trans (Same.new m4))), ⟨_, _, (T.e_InvalidPeriod P w base).cl⟩, T.no_InvalidPeriod_value, rfl⟩
      · exact ⟨_, 11, _, _, rfl, by decide, rfl, x4_2.same (s4_3.trans (Same.new m4)), ⟨_, _, (T.e_InvalidPartners P w base).cl⟩, T.no_InvalidPartners_value, rfl⟩
      · exact ⟨_, 12, _, _, rfl, by decide, rfl, x4_3.same (Same.new m4), ⟨_, _, (T.e_InvalidColumn P w base).cl⟩, T.no_InvalidColumn_value, rfl⟩
    · simp only [List.length_cons, List.length_nil]; omega
    replace c4 : rs4.length = 13 := by simpa [c3] using c4
    walk_at "rd"
    intro e5_0 H5_0 n5_0 s5_0 x5_0
    walk_at "rd"
    intro e5_1 H5_1 n5_1 s5_1 x5_1
    walk_at "rd"
    intro e5_2 H5_2 n5_2 s5_2 x5_2
    walk_at "rd"
    intro a5 m5
    have z5 : L2.Same G4 (upd H5_2 a5 (.lst [V.ref e5_0, V.ref e5_1, V.ref e5_2])) := (s5_0.trans (s5_1.trans (s5_2.trans (Same.new m5))))
    refine ⟨a5, rfl, ⟨_, SqL.of upd_same⟩, loop (f := "value") (b := 0) (H0 := H) (x := x) (ys := [V.ref e5_0, V.ref e5_1, V.ref e5_2]) upd_same ?_ (z5 _ _ hl4) ?_ (fun r h => (r4 r h).same z5) ?_ (s4.trans z5) nl fun G5 rs5 y5 hl5 c5 r5 s5 => ?_⟩
    · exact fun q => ne_of_none ((s5_0.trans (s5_1.trans s5_2)) _ _ hl4) m5 q.symm
    · intro y hy
      simp only [List.mem_cons, List.not_mem_nil, or_false] at hy
      rcases hy with rfl | rfl | rfl
      · exact ⟨_, 13, _, _, rfl, by decide, rfl, x5_0.same (s5_1.trans (s5_2.trans (Same.new m5))), ⟨_, _, (T.e_InvalidState P w base).cl⟩, T.no_InvalidState_value, rfl⟩
      · exact ⟨_, 14, _, _, rfl, by decide, rfl, x5_1.same (s5_2.trans (Same.new m5)), ⟨_, _, (T.e_InvalidLength P w base).cl⟩, T.no_InvalidLength_value, rfl⟩
      · exact ⟨_, 16, _, _, rfl, by decide, rfl, x5_2.same (Same.new m5), ⟨_, _, (T.e_InvalidClaim P w base).cl⟩, T.no_InvalidClaim_value, rfl⟩
    · simp only [List.length_cons, List.length_nil]; omega
    replace c5 : rs5.length = 16 := by simpa [c4] using c5
    walk_at "rd"
    intro e6_0 H6_0 n6_0 s6_0 x6_0
    walk_at "rd"
    intro e6_1 H6_1 n6_1 s6_1 x6_1
    walk_at "rd"
    intro a6 m6
    have z6 : L2.Same G5 (upd H6_1 a6 (.lst [V.ref e6_0, V.ref e6_1])) := (s6_0.trans (s6_1.trans (Same.new m6)))
    refine ⟨a6, rfl, ⟨_, SqL.of upd_same⟩, loop (f := "value") (b := 0) (H0 := H) (x := x) (ys := [V.ref e6_0, V.ref e6_1]) upd_same ?_ (z6 _ _ hl5) ?_ (fun r h => (r5 r h).same z6) ?_ (s5.trans z6) nl fun G6 rs6 y6 hl6 c6 r6 s6 => ?_⟩
    · exact fun q => ne_of_none ((s6_0.trans s6_1) _ _ hl5) m6 q.symm
    · intro y hy
      simp only [List.mem_cons, List.not_mem_nil, or_false] at hy
      rcases hy with rfl | rfl
      · exact ⟨_, 17, _, _, rfl, by decide, rfl, x6_0.same (s6_1.trans (Same.new m6)), ⟨_, _, (T.e_InvalidWay P w base).cl⟩, T.no_InvalidWay_value, rfl⟩
      · exact ⟨_, 18, _, _, rfl, by decide, rfl, x6_1.same (Same.new m6), ⟨_, _, (T.e_InvalidCommand P w base).cl⟩, T.no_InvalidCommand_value, rfl⟩
    · simp only [List.length_cons, List.length_nil]; omega
    replace c6 : rs6.length = 18 := by simpa [c5] using c6
    walk_at "rd"
    refine ⟨ty_lst hl6, ?_⟩
    walk_at "rd"
    intro e7_0 H7_0 n7_0 s7_0 x7_0
    walk_at "rd"
    intro e7_1 H7_1 n7_1 s7_1 x7_1
    refine ⟨_, _, _, _, x, rfl, x7_1, ⟨_, _, (T.e_InvalidText P w base).cl⟩, T.no_InvalidText_line, rfl, ?_⟩
    walk_at "rd"
    intro T7 nT7
    have z7 := s7_0.trans s7_1
    try unfold tNil
    refine row_app (H0 := H) (f := "line") (b := 0) (z7 _ _ hl6) (fun r h => (r6 r h).same z7) (by omega) nl (s6.trans z7) ⟨_, 15, _, _, rfl, by decide, rfl, x7_0.same s7_1, ⟨_, _, (T.e_InvalidText P w base).cl⟩, T.no_InvalidText_line, rfl⟩ (fun G7 rs7 s7 hl7 c7 r7 _ _ => ?_) T7 nT7
    replace c7 : rs7.length = 19 := by omega
    walk_at "rd"
    intro e8_0 H8_0 n8_0 s8_0 x8_0
    walk_at "rd"
    intro e8_1 H8_1 n8_1 s8_1 x8_1
    walk_at "rd"
    intro e8_2 H8_2 n8_2 s8_2 x8_2
    walk_at "rd"
    intro e8_3 H8_3 n8_3 s8_3 x8_3
    walk_at "rd"
    intro a8 m8
    have z8 : L2.Same G7 (upd H8_3 a8 (.lst [V.ref e8_0, V.ref e8_1, V.ref e8_2, V.ref e8_3])) := (s8_0.trans (s8_1.trans (s8_2.trans (s8_3.trans (Same.new m8)))))
    refine ⟨a8, rfl, ⟨_, SqL.of upd_same⟩, loop (f := "value") (b := 1) (H0 := H) (x := x) (ys := [V.ref e8_0, V.ref e8_1, V.ref e8_2, V.ref e8_3]) upd_same ?_ (z8 _ _ hl7) ?_ (fun r h => (r7 r h).same z8) ?_ (s7.trans z8) nl fun G8 rs8 y8 hl8 c8 r8 s8 => ?_⟩
    · exact fun q => ne_of_none ((s8_0.trans (s8_1.trans (s8_2.trans s8_3))) _ _ hl7) m8 q.symm
    · intro y hy
      simp only [List.mem_cons, List.not_mem_nil, or_false] at hy
      rcases hy with rfl | rfl | rfl | rfl
      · exact ⟨_, 19, _, _, rfl, by decide, rfl, x8_0.same (s8_1.trans (s8_2.trans (s8_3.trans (Same.new m8)))), ⟨_, _, (T.e_UnknownName P w base).cl⟩, T.no_UnknownName_value, rfl⟩
      · exact ⟨_, 20, _, _, rfl, by decide, rfl, x8_1.same (s8_2.trans (s8_3.trans (Same.new m8))), ⟨_, _, (T.e_UnknownKind P w base).cl⟩, T.no_UnknownKind_value, rfl⟩
      · exact ⟨_, 21, _, _, rfl, by decide, rfl, x8_2.same (s8_3.trans (Same.new m8)), ⟨_, _, (T.e_UnknownCell P w base).cl⟩, T.no_UnknownCell_value, rfl⟩
      · exact ⟨_, 22, _, _, rfl, by decide, rfl, x8_3.same (Same.new m8), ⟨_, _, (T.e_UnknownLine P w base).cl⟩, T.no_UnknownLine_value, rfl⟩
    · simp only [List.length_cons, List.length_nil]; omega
    replace c8 : rs8.length = 23 := by simpa [c7] using c8
    walk_at "rd"
    intro e9_0 H9_0 n9_0 s9_0 x9_0
    walk_at "rd"
    intro e9_1 H9_1 n9_1 s9_1 x9_1
    walk_at "rd"
    intro e9_2 H9_2 n9_2 s9_2 x9_2
    walk_at "rd"
    intro e9_3 H9_3 n9_3 s9_3 x9_3
    walk_at "rd"
    intro a9 m9
    have z9 : L2.Same G8 (upd H9_3 a9 (.lst [V.ref e9_0, V.ref e9_1, V.ref e9_2, V.ref e9_3])) := (s9_0.trans (s9_1.trans (s9_2.trans (s9_3.trans (Same.new m9)))))
    refine ⟨a9, rfl, ⟨_, SqL.of upd_same⟩, loop (f := "value") (b := 2) (H0 := H) (x := x) (ys := [V.ref e9_0, V.ref e9_1, V.ref e9_2, V.ref e9_3]) upd_same ?_ (z9 _ _ hl8) ?_ (fun r h => (r8 r h).same z9) ?_ (s8.trans z9) nl fun G9 rs9 y9 hl9 c9 r9 s9 => ?_⟩
    · exact fun q => ne_of_none ((s9_0.trans (s9_1.trans (s9_2.trans s9_3))) _ _ hl8) m9 q.symm
    · intro y hy
      simp only [List.mem_cons, List.not_mem_nil, or_false] at hy
      rcases hy with rfl | rfl | rfl | rfl
      · exact ⟨_, 23, _, _, rfl, by decide, rfl, x9_0.same (s9_1.trans (s9_2.trans (s9_3.trans (Same.new m9)))), ⟨_, _, (T.e_KindTaken P w base).cl⟩, T.no_KindTaken_value, rfl⟩
      · exact ⟨_, 25, _, _, rfl, by decide, rfl, x9_1.same (s9_2.trans (s9_3.trans (Same.new m9))), ⟨_, _, (T.e_NotFlat P w base).cl⟩, T.no_NotFlat_value, rfl⟩
      · exact ⟨_, 27, _, _, rfl, by decide, rfl, x9_2.same (s9_3.trans (Same.new m9)), ⟨_, _, (T.e_Marked P w base).cl⟩, T.no_Marked_value, rfl⟩
      · exact ⟨_, 28, _, _, rfl, by decide, rfl, x9_3.same (Same.new m9), ⟨_, _, (T.e_WrongTurn P w base).cl⟩, T.no_WrongTurn_value, rfl⟩
    · simp only [List.length_cons, List.length_nil]; omega
    replace c9 : rs9.length = 27 := by simpa [c8] using c9
    walk_at "rd"
    intro e H1 n1 s1 x1
    walk_at "rd"
    intro e' H2 n2 s2 x2
    refine ⟨_, _, _, _, x, rfl, x2, ⟨_, _, (T.e_CommandFailed P w base).cl⟩, T.no_CommandFailed_position, rfl, ?_⟩
    walk_at "rd"
    intro t nt
    walk_at "rd"
    intro p np
    have z := s1.trans s2
    have zt := Same.new (o := .tup [.ref e, x, .int 2]) nt
    have zp := Same.new (o := .lst [.ref t]) np
    have hl := zp _ _ (zt _ _ (z _ _ hl9))
    refine ⟨l, p, _, _, rfl, rfl, hl, upd_same, ?_, fun q nq => ?_⟩
    · rw [c9]; exact Nat.le_of_ble_eq_true rfl
    refine k _ q _ (s9.trans (z.trans (zt.trans (zp.trans (Same.new nq))))) upd_same ?_ fun r hr => ?_
    · rw [List.length_append, c9]; rfl
    · rcases List.mem_append.mp hr with h | h
      · exact (r9 r h).same (z.trans (zt.trans (zp.trans (Same.new nq))))
      · obtain rfl := List.mem_singleton.mp h
        exact ⟨t, e, 31, _, _, rfl, by decide, Same.new nq _ _ (zp _ _ upd_same), ((x1.same s2).same zt).same (zp.trans (Same.new nq))⟩
end
end K10

set_option Elab.async false
set_option linter.all false
set_option maxRecDepth 100000
set_option maxHeartbeats 4000000
namespace K10
open PySem L2 Lay
local macro_rules | `(tactic| walk_at "ne") => `(tactic| first | assumption | (apply Ne.symm; assumption) | exact ne_of_none (by walk_at "look") (by assumption) | exact (ne_of_none (by walk_at "look") (by assumption)).symm)
local macro_rules | `(tactic| walk_at "look") => `(tactic| first | assumption | exact upd_same | (refine Eq.trans (upd_ne ?_) ?_; walk_at "ne"; walk_at "look"))
local macro_rules | `(tactic| walk_at "rds") => `(tactic| first | rfl | assumption | walk_at "look" | exact SqL.of (by walk_at "look") | exact SqT.of (by walk_at "look") | exact Or.inl (SqL.of (by walk_at "look")) | exact Or.inl (by assumption) | decide | omega | exact Nat.le_of_ble_eq_true rfl | exact Or.inr ⟨by decide, by decide⟩ | exact Or.inl ⟨by omega, by omega⟩ | exact ⟨by decide, by decide⟩)
local macro_rules | `(tactic| walk_at "rd1") => `(tactic| first | (apply Exists.intro) | (refine And.intro ?_ ?_; walk_at "rds") | (refine Or.inl ?_; apply Exists.intro; refine And.intro ?_ ?_; rfl))
local macro_rules | `(tactic| walk_at "rd") => `(tactic| repeat walk_at "rd1")
section
variable {P : Program} {w : World} {K : PySem.W.Frag} {mg : Str → Option Value} {base : Heap}
theorem cls_at (P : Program) (w : World) (base : Heap) (T : Txt K mg) : ∀ i, i < 33 → ∃ newId bmB, Exv.Cl K (He.ga K (leafN i)) newId bmB
  | 0, _ => ⟨_, _, (T.e_InvalidEntries P w base).cl⟩
  | 1, _ => ⟨_, _, (T.e_InvalidNames P w base).cl⟩
  | 2, _ => ⟨_, _, (T.e_InvalidKinds P w base).cl⟩
  | 3, _ => ⟨_, _, (T.e_InvalidRenaming P w base).cl⟩
  | 4, _ => ⟨_, _, (T.e_InvalidSize P w base).cl⟩
  | 5, _ => ⟨_, _, (T.e_InvalidLines P w base).cl⟩
  | 6, _ => ⟨_, _, (T.e_InvalidSet P w base).cl⟩
  | 7, _ => ⟨_, _, (T.e_InvalidChoice P w base).cl⟩
  | 8, _ => ⟨_, _, (T.e_InvalidMarks P w base).cl⟩
  | 9, _ => ⟨_, _, (T.e_InvalidHeight P w base).cl⟩
  | 10, _ => ⟨_, _, (T.e_InvalidPeriod P w base).cl⟩
  | 11, _ => ⟨_, _, (T.e_InvalidPartners P w base).cl⟩
  | 12, _ => ⟨_, _, (T.e_InvalidColumn P w base).cl⟩
  | 13, _ => ⟨_, _, (T.e_InvalidState P w base).cl⟩
  | 14, _ => ⟨_, _, (T.e_InvalidLength P w base).cl⟩
  | 15, _ => ⟨_, _, (T.e_InvalidText P w base).cl⟩
  | 16, _ => ⟨_, _, (T.e_InvalidClaim P w base).cl⟩
  | 17, _ => ⟨_, _, (T.e_InvalidWay P w base).cl⟩
  | 18, _ => ⟨_, _, (T.e_InvalidCommand P w base).cl⟩
  | 19, _ => ⟨_, _, (T.e_UnknownName P w base).cl⟩
  | 20, _ => ⟨_, _, (T.e_UnknownKind P w base).cl⟩
  | 21, _ => ⟨_, _, (T.e_UnknownCell P w base).cl⟩
  | 22, _ => ⟨_, _, (T.e_UnknownLine P w base).cl⟩
  | 23, _ => ⟨_, _, (T.e_KindTaken P w base).cl⟩
  | 24, _ => ⟨_, _, (T.e_SameKinds P w base).cl⟩
  | 25, _ => ⟨_, _, (T.e_NotFlat P w base).cl⟩
  | 26, _ => ⟨_, _, (T.e_OtherPiece P w base).cl⟩
  | 27, _ => ⟨_, _, (T.e_Marked P w base).cl⟩
  | 28, _ => ⟨_, _, (T.e_WrongTurn P w base).cl⟩
  | 29, _ => ⟨_, _, (T.e_NoAnswer P w base).cl⟩
  | 30, _ => ⟨_, _, (T.e_NothingToUndo P w base).cl⟩
  | 31, _ => ⟨_, _, (T.e_CommandFailed P w base).cl⟩
  | 32, _ => ⟨_, _, (T.e_TooMany P w base).cl⟩
  | n + 33, h => absurd h (by omega)
theorem op_in_seqK {X : Cx} {K : PySem.W.Frag} (h : X.K = K) : OpR X (compareOp .In) (rIn K false) := h ▸ op_in_seq
def brL (b : Nat) : List V := (List.range 8).map fun i => .bl (i == b || i == b + 4)
theorem br_lt : ∀ i, i < 33 → brI i < 4 := by decide
theorem brL_eq : ∀ {b : Nat}, b < 4 → brL b = (([.bl (b == 0), .bl (b == 1)] ++ [.bl (b == 2), .bl (b == 3)]) ++ [.bl (b == 0), .bl (b == 1)]) ++ [.bl (b == 2), .bl (b == 3)]
  | 0, _ => rfl
  | 1, _ => rfl
  | 2, _ => rfl
  | 3, _ => rfl
  | n + 4, h => absurd h (by omega)
def spBr (K : PySem.W.Frag) : Sp := fun vs H Q _ => ∃ (e : Addr) (i : Nat) (fs : List (Str × V)) (args : List V), vs = [.ref e] ∧ i < 33 ∧ Exv.IsExc H e (He.ga K (leafN i)) fs args ∧ ∀ H' l, L2.Same H H' → H l = none → H' l = some (.lst (brL (brI i))) → Q (.ref l) H'
theorem d_branches (T : Txt K mg) : Df P w K mg base 2 "_law_branches" ["_law_made"] (spBr K) := by
  refine T.S_l_branches.by sc_l_branches (fun vs H Q E h => ?_) (fun f cdv A outer s H vs Q E hr hgd h => ?_)
  · obtain ⟨e, i, fs, args, rfl, _⟩ := h; rfl
  · obtain ⟨e, i, fs, args, rfl, hi, he, k⟩ := h
    refine ⟨_, (pss_cons (ps_set (i := 1) sc_l_branches.nd rfl (by first | exact Or.inl rfl | exact Or.inr rfl) (pe_lst (pa_cons (pe_callB (Exv.call_isE T.gs) (by rfl) T.n_isinstance (by decide +kernel) (pa_cons (pv 0) (pa_cons (pe_glob (v := .ref (He.ga K "LineError")) (by rfl) T.g_LineError rfl) pa_nil))) (pa_cons (pe_callB (Exv.call_isE T.gs) (by rfl) T.n_isinstance (by decide +kernel) (pa_cons (pv 0) (pa_cons (pe_glob (v := .ref (He.ga K "MissingError")) (by rfl) T.g_MissingError rfl) pa_nil))) pa_nil))))
      (pss_cons (ps_set (i := 1) sc_l_branches.nd rfl (by first | exact Or.inl rfl | exact Or.inr rfl) (pe_op op_cat (pv 1) (pe_lst (pa_cons (pe_callB (Exv.call_isE T.gs) (by rfl) T.n_isinstance (by decide +kernel) (pa_cons (pv 0) (pa_cons (pe_glob (v := .ref (He.ga K "StateError")) (by rfl) T.g_StateError rfl) pa_nil))) (pa_cons (pe_callB (Exv.call_isE T.gs) (by rfl) T.n_isinstance (by decide +kernel) (pa_cons (pv 0) (pa_cons (pe_glob (v := .ref (He.ga K "LimitError")) (by rfl) T.g_LimitError rfl) pa_nil))) pa_nil)))))
      (pss_cons (ps_set (i := 2) sc_l_branches.nd rfl (by first | exact Or.inl rfl | exact Or.inr rfl) (pe_lst (pa_cons (pe_callB (Exv.call_isE T.gs) (by rfl) T.n_isinstance (by decide +kernel) (pa_cons (pv 0) (pa_cons (pe_bltn (v := .ty "ValueError") (u := .type "ValueError") (by rfl) T.n_ValueError (by decide +kernel) rfl) pa_nil))) (pa_cons (pe_callB (Exv.call_isE T.gs) (by rfl) T.n_isinstance (by decide +kernel) (pa_cons (pv 0) (pa_cons (pe_bltn (v := .ty "LookupError") (u := .type "LookupError") (by rfl) T.n_LookupError (by decide +kernel) rfl) pa_nil))) pa_nil))))
      (pss_one (ps_ret (pe_op op_cat (pe_op op_cat (pv 1) (pv 2)) (pe_lst (pa_cons (pe_callB (Exv.call_isE T.gs) (by rfl) T.n_isinstance (by decide +kernel) (pa_cons (pv 0) (pa_cons (pe_bltn (v := .ty "RuntimeError") (u := .type "RuntimeError") (by rfl) T.n_RuntimeError (by decide +kernel) rfl) pa_nil))) (pa_cons (pe_callB (Exv.call_isE T.gs) (by rfl) T.n_isinstance (by decide +kernel) (pa_cons (pv 0) (pa_cons (pe_bltn (v := .ty "ArithmeticError") (u := .type "ArithmeticError") (by rfl) T.n_ArithmeticError (by decide +kernel) rfl) pa_nil))) pa_nil))))))))), ?_⟩
    obtain ⟨nw, bm, cl⟩ := cls_at P w base T i hi
    walk_at "rd"
    refine ⟨.own _, .exc he cl, T.kB i 0 hi (by decide), ?_⟩
    walk_at "rd"
    refine ⟨.own _, .exc he cl, T.kB i 1 hi (by decide), ?_⟩
    walk_at "rd"
    intro l1 n1
    have z1 := Same.new (o := .lst [.bl (brI i == 0), .bl (brI i == 1)]) n1
    have g1 : (upd H l1 (.lst [.bl (brI i == 0), .bl (brI i == 1)])) l1 = some (.lst [.bl (brI i == 0), .bl (brI i == 1)]) := upd_same
    generalize (upd H l1 (.lst [.bl (brI i == 0), .bl (brI i == 1)])) = H1 at *
    have he1 := he.same z1
    walk_at "rd"
    refine ⟨.own _, .exc he1 cl, T.kB i 2 hi (by decide), ?_⟩
    walk_at "rd"
    refine ⟨.own _, .exc he1 cl, T.kB i 3 hi (by decide), ?_⟩
    walk_at "rd"
    intro l2 n2
    have z2 := Same.new (o := .lst [.bl (brI i == 2), .bl (brI i == 3)]) n2
    refine ⟨l1, l2, _, _, rfl, rfl, z2 _ _ g1, upd_same, Nat.le_of_ble_eq_true rfl, fun l3 n3 => ?_⟩
    have z3 := z2.trans (Same.new (o := .lst ([.bl (brI i == 0), .bl (brI i == 1)] ++ [.bl (brI i == 2), .bl (brI i == 3)])) n3)
    have g3 : (upd (upd H1 l2 (.lst [.bl (brI i == 2), .bl (brI i == 3)])) l3 (.lst ([.bl (brI i == 0), .bl (brI i == 1)] ++ [.bl (brI i == 2), .bl (brI i == 3)]))) l3 = some (.lst ([.bl (brI i == 0), .bl (brI i == 1)] ++ [.bl (brI i == 2), .bl (brI i == 3)])) := upd_same
    generalize (upd (upd H1 l2 (.lst [.bl (brI i == 2), .bl (brI i == 3)])) l3 (.lst ([.bl (brI i == 0), .bl (brI i == 1)] ++ [.bl (brI i == 2), .bl (brI i == 3)]))) = H3 at *
    have he3 := he1.same z3
    walk_at "rd"
    refine ⟨.ty _, .exc he3 cl, T.kT i 0 hi (by decide), ?_⟩
    walk_at "rd"
    refine ⟨.ty _, .exc he3 cl, T.kT i 1 hi (by decide), ?_⟩
    walk_at "rd"
    intro l4 n4
    walk_at "rd"
    have z4 := Same.new (o := .lst [.bl (brI i == 0), .bl (brI i == 1)]) n4
    have g4 : (upd H3 l4 (.lst [.bl (brI i == 0), .bl (brI i == 1)])) l4 = some (.lst [.bl (brI i == 0), .bl (brI i == 1)]) := upd_same
    generalize (upd H3 l4 (.lst [.bl (brI i == 0), .bl (brI i == 1)])) = H4 at *
    have he4 := he3.same z4
    intro l5 n5
    have z5 := Same.new (o := .lst (([.bl (brI i == 0), .bl (brI i == 1)] ++ [.bl (brI i == 2), .bl (brI i == 3)]) ++ [.bl (brI i == 0), .bl (brI i == 1)])) n5
    have he5 := he4.same z5
    walk_at "rd"
    refine ⟨.ty _, .exc he5 cl, T.kT i 2 hi (by decide), ?_⟩
    walk_at "rd"
    refine ⟨.ty _, .exc he5 cl, T.kT i 3 hi (by decide), ?_⟩
    walk_at "rd"
    intro l6 n6
    have z6 := z5.trans (Same.new (o := .lst [.bl (brI i == 2), .bl (brI i == 3)]) n6)
    refine ⟨l5, l6, _, _, rfl, rfl, (Same.new n6 _ _ upd_same), upd_same, Nat.le_of_ble_eq_true rfl, fun l7 n7 => ?_⟩
    have z := z1.trans (z3.trans (z4.trans z6))
    refine k _ l7 (z.trans (Same.new n7)) ?_ ?_
    · cases hq : H l7 with
      | none => rfl
      | some o => have q := z _ _ hq; rw [n7] at q; cases q
    · rw [brL_eq (br_lt i hi)]
      exact upd_same
theorem in_eq : ∀ b, b < 4 → ∀ i, i < 8 → inV (.int (0 + (i : Nat))) [.int (b : Nat), .int ((b : Nat) + 4)] = (i == b || i == b + 4) := by decide
def spDue : Sp := fun vs H Q _ => ∃ b : Nat, vs = [.int b] ∧ b < 4 ∧ ∀ H' l, L2.Same H H' → H l = none → H' l = some (.lst (brL b)) → Q (.ref l) H'
theorem d_due (T : Txt K mg) : Df P w K mg base 1 "_law_due" ["_law_branch"] spDue := by
  refine T.S_l_due.by sc_l_due (fun vs H Q E h => ?_) (fun f cdv A outer s H vs Q E hr hgd h => ?_)
  · obtain ⟨b, rfl, _⟩ := h; rfl
  · obtain ⟨b, rfl, hb, k⟩ := h
    refine ⟨_, (pss_one (ps_ret (pe_lc (own := [("_law_place", 1)]) rfl sc_l_due.nd (pi_range1 (by rfl) T.n_range (pa_cons pe_int pa_nil)) (blkOk_by (own := [("_law_place", 1)]) (N := ["_law_branch", "_law_place"]) (sc := defScope s_l_due) (by decide +kernel)) (fun _ _ _ _ _ => (pg_name (i := 1) sc_l_due.nd rfl (by first | exact Or.inl rfl | exact Or.inr rfl))) (fun _ _ _ _ _ => pts_nil) (fun _ _ _ _ _ => (pe_cmpR (op_in_seqK (K := K) rfl) (pv 1) (pe_tup (pa_cons (pv 0) (pa_cons (pe_op op_add (pv 0) pe_int) pa_nil))) (by rfl)))))), ?_⟩
    walk_at "rd"
    intro D nD
    refine lc_pure (n := 8) walk_range nD (by omega) (fun _ _ => trivial) (fun i y => y = .bl (i == b || i == b + 4)) (fun i x H4 H5 Kn Z hi sm y q => ?_) (fun H4 xs sm hD hl hr => ?_)
    · obtain ⟨rfl, rfl⟩ := y
      refine ⟨rfl, ?_⟩
      show (if true = true then tOp (rIn K false) (tVar 1) (tTup (tCons (tVar 0) (tCons (tOp (rI0 fun i j => V.int (i + j)) (tVar 0) (tC (V.int 4))) tNil))) _ H5 Kn else Z H5)
      rw [if_pos rfl]
      walk_at "rd"
      intro a na
      refine ⟨a, _, rfl, .inr (SqT.of upd_same), rfl, rfl, ?_⟩
      refine q _ _ (Same.new na) ?_
      exact congrArg V.bl (in_eq b hb i hi)
    · refine k _ D sm nD ?_
      rw [hD, eq_map hl hr]
      rfl
end
end K10

set_option Elab.async false
set_option linter.all false
set_option maxRecDepth 100000
set_option maxHeartbeats 4000000
namespace K10
open PySem L2 Lay
local macro_rules | `(tactic| walk_at "ne") => `(tactic| first | assumption | (apply Ne.symm; assumption) | exact ne_of_none (by walk_at "look") (by assumption) | exact (ne_of_none (by walk_at "look") (by assumption)).symm)
local macro_rules | `(tactic| walk_at "look") => `(tactic| first | assumption | exact upd_same | (refine Eq.trans (upd_ne ?_) ?_; walk_at "ne"; walk_at "look"))
local macro_rules | `(tactic| walk_at "rds") => `(tactic| first | rfl | assumption | walk_at "look" | exact SqL.of (by walk_at "look") | exact SqT.of (by walk_at "look") | exact Or.inl (SqL.of (by walk_at "look")) | exact Or.inl (by assumption) | decide | omega | exact Nat.le_of_ble_eq_true rfl | exact Or.inr ⟨by decide, by decide⟩ | exact Or.inl ⟨by omega, by omega⟩ | exact ⟨by decide, by decide⟩)
local macro_rules | `(tactic| walk_at "rd1") => `(tactic| first | (apply Exists.intro) | (refine And.intro ?_ ?_; walk_at "rds") | (refine Or.inl ?_; apply Exists.intro; refine And.intro ?_ ?_; rfl))
local macro_rules | `(tactic| walk_at "rd") => `(tactic| repeat walk_at "rd1")
section
variable {P : Program} {w : World} {K : PySem.W.Frag} {mg : Str → Option Value} {base : Heap}
theorem sum1 : ∀ i, i < 33 → ((List.range 33).map fun j => if (i == j) = true then (1 : Int) else 0).sum = 1 := by decide
def spOwn (K : PySem.W.Frag) : Sp := fun vs H Q _ => ∃ (e : Addr) (i : Nat) (fs : List (Str × V)) (args : List V), vs = [.ref e] ∧ i < 33 ∧ Exv.IsExc H e (He.ga K (leafN i)) fs args ∧ ∀ H', L2.Same H H' → Q (.int 1) H'
theorem d_many_own (T : Txt K mg) : Df P w K mg base 2 "_law_many_own" ["_law_made"] (spOwn K) := by
  refine T.S_l_many_own.by sc_l_many_own (fun vs H Q E h => ?_) (fun f cdv A outer s H vs Q E hr hgd h => ?_)
  · obtain ⟨e, i, fs, args, rfl, _⟩ := h; rfl
  · obtain ⟨e, i, fs, args, rfl, hi, he0, k⟩ := h
    refine ⟨_, (pss_cons (ps_set (i := 1) sc_l_many_own.nd rfl (by first | exact Or.inl rfl | exact Or.inr rfl) (pe_lst (pa_cons (pe_callB (Exv.call_isE T.gs) (by rfl) T.n_isinstance (by decide +kernel) (pa_cons (pv 0) (pa_cons (pe_glob (v := .ref (He.ga K "InvalidEntries")) (by rfl) T.g_InvalidEntries rfl) pa_nil))) (pa_cons (pe_callB (Exv.call_isE T.gs) (by rfl) T.n_isinstance (by decide +kernel) (pa_cons (pv 0) (pa_cons (pe_glob (v := .ref (He.ga K "InvalidNames")) (by rfl) T.g_InvalidNames rfl) pa_nil))) (pa_cons (pe_callB (Exv.call_isE T.gs) (by rfl) T.n_isinstance (by decide +kernel) (pa_cons (pv 0) (pa_cons (pe_glob (v := .ref (He.ga K "InvalidKinds")) (by rfl) T.g_InvalidKinds rfl) pa_nil))) pa_nil)))))
      (pss_cons (ps_set (i := 1) sc_l_many_own.nd rfl (by first | exact Or.inl rfl | exact Or.inr rfl) (pe_op op_cat (pv 1) (pe_lst (pa_cons (pe_callB (Exv.call_isE T.gs) (by rfl) T.n_isinstance (by decide +kernel) (pa_cons (pv 0) (pa_cons (pe_glob (v := .ref (He.ga K "InvalidRenaming")) (by rfl) T.g_InvalidRenaming rfl) pa_nil))) (pa_cons (pe_callB (Exv.call_isE T.gs) (by rfl) T.n_isinstance (by decide +kernel) (pa_cons (pv 0) (pa_cons (pe_glob (v := .ref (He.ga K "InvalidSize")) (by rfl) T.g_InvalidSize rfl) pa_nil))) (pa_cons (pe_callB (Exv.call_isE T.gs) (by rfl) T.n_isinstance (by decide +kernel) (pa_cons (pv 0) (pa_cons (pe_glob (v := .ref (He.ga K "InvalidLines")) (by rfl) T.g_InvalidLines rfl) pa_nil))) pa_nil))))))
      (pss_cons (ps_set (i := 1) sc_l_many_own.nd rfl (by first | exact Or.inl rfl | exact Or.inr rfl) (pe_op op_cat (pv 1) (pe_lst (pa_cons (pe_callB (Exv.call_isE T.gs) (by rfl) T.n_isinstance (by decide +kernel) (pa_cons (pv 0) (pa_cons (pe_glob (v := .ref (He.ga K "InvalidSet")) (by rfl) T.g_InvalidSet rfl) pa_nil))) (pa_cons (pe_callB (Exv.call_isE T.gs) (by rfl) T.n_isinstance (by decide +kernel) (pa_cons (pv 0) (pa_cons (pe_glob (v := .ref (He.ga K "InvalidChoice")) (by rfl) T.g_InvalidChoice rfl) pa_nil))) (pa_cons (pe_callB (Exv.call_isE T.gs) (by rfl) T.n_isinstance (by decide +kernel) (pa_cons (pv 0) (pa_cons (pe_glob (v := .ref (He.ga K "InvalidMarks")) (by rfl) T.g_InvalidMarks rfl) pa_nil))) pa_nil))))))
      (pss_cons (ps_set (i := 1) sc_l_many_own.nd rfl (by first | exact Or.inl rfl | exact Or.inr rfl) (pe_op op_cat (pv 1) (pe_lst (pa_cons (pe_callB (Exv.call_isE T.gs) (by rfl) T.n_isinstance (by decide +kernel) (pa_cons (pv 0) (pa_cons (pe_glob (v := .ref (He.ga K "InvalidHeight")) (by rfl) T.g_InvalidHeight rfl) pa_nil))) (pa_cons (pe_callB (Exv.call_isE T.gs) (by rfl) T.n_isinstance (by decide +kernel) (pa_cons (pv 0) (pa_cons (pe_glob (v := .ref (He.ga K "InvalidPeriod")) (by rfl) T.g_InvalidPeriod rfl) pa_nil))) pa_nil)))))
      (pss_cons (ps_set (i := 1) sc_l_many_own.nd rfl (by first | exact Or.inl rfl | exact Or.inr rfl) (pe_op op_cat (pv 1) (pe_lst (pa_cons (pe_callB (Exv.call_isE T.gs) (by rfl) T.n_isinstance (by decide +kernel) (pa_cons (pv 0) (pa_cons (pe_glob (v := .ref (He.ga K "InvalidPartners")) (by rfl) T.g_InvalidPartners rfl) pa_nil))) (pa_cons (pe_callB (Exv.call_isE T.gs) (by rfl) T.n_isinstance (by decide +kernel) (pa_cons (pv 0) (pa_cons (pe_glob (v := .ref (He.ga K "InvalidColumn")) (by rfl) T.g_InvalidColumn rfl) pa_nil))) pa_nil)))))
      (pss_cons (ps_set (i := 1) sc_l_many_own.nd rfl (by first | exact Or.inl rfl | exact Or.inr rfl) (pe_op op_cat (pv 1) (pe_lst (pa_cons (pe_callB (Exv.call_isE T.gs) (by rfl) T.n_isinstance (by decide +kernel) (pa_cons (pv 0) (pa_cons (pe_glob (v := .ref (He.ga K "InvalidState")) (by rfl) T.g_InvalidState rfl) pa_nil))) (pa_cons (pe_callB (Exv.call_isE T.gs) (by rfl) T.n_isinstance (by decide +kernel) (pa_cons (pv 0) (pa_cons (pe_glob (v := .ref (He.ga K "InvalidLength")) (by rfl) T.g_InvalidLength rfl) pa_nil))) pa_nil)))))
      (pss_cons (ps_set (i := 1) sc_l_many_own.nd rfl (by first | exact Or.inl rfl | exact Or.inr rfl) (pe_op op_cat (pv 1) (pe_lst (pa_cons (pe_callB (Exv.call_isE T.gs) (by rfl) T.n_isinstance (by decide +kernel) (pa_cons (pv 0) (pa_cons (pe_glob (v := .ref (He.ga K "InvalidText")) (by rfl) T.g_InvalidText rfl) pa_nil))) (pa_cons (pe_callB (Exv.call_isE T.gs) (by rfl) T.n_isinstance (by decide +kernel) (pa_cons (pv 0) (pa_cons (pe_glob (v := .ref (He.ga K "InvalidClaim")) (by rfl) T.g_InvalidClaim rfl) pa_nil))) (pa_cons (pe_callB (Exv.call_isE T.gs) (by rfl) T.n_isinstance (by decide +kernel) (pa_cons (pv 0) (pa_cons (pe_glob (v := .ref (He.ga K "InvalidWay")) (by rfl) T.g_InvalidWay rfl) pa_nil))) pa_nil))))))
      (pss_cons (ps_set (i := 1) sc_l_many_own.nd rfl (by first | exact Or.inl rfl | exact Or.inr rfl) (pe_op op_cat (pv 1) (pe_lst (pa_cons (pe_callB (Exv.call_isE T.gs) (by rfl) T.n_isinstance (by decide +kernel) (pa_cons (pv 0) (pa_cons (pe_glob (v := .ref (He.ga K "InvalidCommand")) (by rfl) T.g_InvalidCommand rfl) pa_nil))) (pa_cons (pe_callB (Exv.call_isE T.gs) (by rfl) T.n_isinstance (by decide +kernel) (pa_cons (pv 0) (pa_cons (pe_glob (v := .ref (He.ga K "UnknownName")) (by rfl) T.g_UnknownName rfl) pa_nil))) (pa_cons (pe_callB (Exv.call_isE T.gs) (by rfl) T.n_isinstance (by decide +kernel) (pa_cons (pv 0) (pa_cons (pe_glob (v := .ref (He.ga K "UnknownKind")) (by rfl) T.g_UnknownKind rfl) pa_nil))) pa_nil))))))
      (pss_cons (ps_set (i := 1) sc_l_many_own.nd rfl (by first | exact Or.inl rfl | exact Or.inr rfl) (pe_op op_cat (pv 1) (pe_lst (pa_cons (pe_callB (Exv.call_isE T.gs) (by rfl) T.n_isinstance (by decide +kernel) (pa_cons (pv 0) (pa_cons (pe_glob (v := .ref (He.ga K "UnknownCell")) (by rfl) T.g_UnknownCell rfl) pa_nil))) (pa_cons (pe_callB (Exv.call_isE T.gs) (by rfl) T.n_isinstance (by decide +kernel) (pa_cons (pv 0) (pa_cons (pe_glob (v := .ref (He.ga K "UnknownLine")) (by rfl) T.g_UnknownLine rfl) pa_nil))) (pa_cons (pe_callB (Exv.call_isE T.gs) (by rfl) T.n_isinstance (by decide +kernel) (pa_cons (pv 0) (pa_cons (pe_glob (v := .ref (He.ga K "KindTaken")) (by rfl) T.g_KindTaken rfl) pa_nil))) pa_nil))))))
      (pss_cons (ps_set (i := 1) sc_l_many_own.nd rfl (by first | exact Or.inl rfl | exact Or.inr rfl) (pe_op op_cat (pv 1) (pe_lst (pa_cons (pe_callB (Exv.call_isE T.gs) (by rfl) T.n_isinstance (by decide +kernel) (pa_cons (pv 0) (pa_cons (pe_glob (v := .ref (He.ga K "SameKinds")) (by rfl) T.g_SameKinds rfl) pa_nil))) (pa_cons (pe_callB (Exv.call_isE T.gs) (by rfl) T.n_isinstance (by decide +kernel) (pa_cons (pv 0) (pa_cons (pe_glob (v := .ref (He.ga K "NotFlat")) (by rfl) T.g_NotFlat rfl) pa_nil))) (pa_cons (pe_callB (Exv.call_isE T.gs) (by rfl) T.n_isinstance (by decide +kernel) (pa_cons (pv 0) (pa_cons (pe_glob (v := .ref (He.ga K "OtherPiece")) (by rfl) T.g_OtherPiece rfl) pa_nil))) pa_nil))))))
      (pss_cons (ps_set (i := 1) sc_l_many_own.nd rfl (by first | exact Or.inl rfl | exact Or.inr rfl) (pe_op op_cat (pv 1) (pe_lst (pa_cons (pe_callB (Exv.call_isE T.gs) (by rfl) T.n_isinstance (by decide +kernel) (pa_cons (pv 0) (pa_cons (pe_glob (v := .ref (He.ga K "Marked")) (by rfl) T.g_Marked rfl) pa_nil))) (pa_cons (pe_callB (Exv.call_isE T.gs) (by rfl) T.n_isinstance (by decide +kernel) (pa_cons (pv 0) (pa_cons (pe_glob (v := .ref (He.ga K "WrongTurn")) (by rfl) T.g_WrongTurn rfl) pa_nil))) (pa_cons (pe_callB (Exv.call_isE T.gs) (by rfl) T.n_isinstance (by decide +kernel) (pa_cons (pv 0) (pa_cons (pe_glob (v := .ref (He.ga K "NoAnswer")) (by rfl) T.g_NoAnswer rfl) pa_nil))) pa_nil))))))
      (pss_cons (ps_set (i := 1) sc_l_many_own.nd rfl (by first | exact Or.inl rfl | exact Or.inr rfl) (pe_op op_cat (pv 1) (pe_lst (pa_cons (pe_callB (Exv.call_isE T.gs) (by rfl) T.n_isinstance (by decide +kernel) (pa_cons (pv 0) (pa_cons (pe_glob (v := .ref (He.ga K "NothingToUndo")) (by rfl) T.g_NothingToUndo rfl) pa_nil))) (pa_cons (pe_callB (Exv.call_isE T.gs) (by rfl) T.n_isinstance (by decide +kernel) (pa_cons (pv 0) (pa_cons (pe_glob (v := .ref (He.ga K "CommandFailed")) (by rfl) T.g_CommandFailed rfl) pa_nil))) (pa_cons (pe_callB (Exv.call_isE T.gs) (by rfl) T.n_isinstance (by decide +kernel) (pa_cons (pv 0) (pa_cons (pe_glob (v := .ref (He.ga K "TooMany")) (by rfl) T.g_TooMany rfl) pa_nil))) pa_nil))))))
      (pss_one (ps_ret (pe_callB (cr_sum rfl) (by rfl) T.n_sum (by decide +kernel) (pa_cons (pe_lc (own := [("_law_own", 2)]) rfl sc_l_many_own.nd (pi_list (pv 1)) (blkOk_by (own := [("_law_own", 2)]) (N := ["_law_made", "_law_found", "_law_own"]) (sc := defScope s_l_many_own) (by decide +kernel)) (fun _ _ _ _ _ => (pg_name (i := 2) sc_l_many_own.nd rfl (by first | exact Or.inl rfl | exact Or.inr rfl))) (fun _ _ _ _ _ => pts_nil) (fun _ _ _ _ _ => (pe_callTy call_int1 (by rfl) T.n_int (by decide +kernel) (pa_cons (pv 2) pa_nil)))) pa_nil)))))))))))))))), ?_⟩
    obtain ⟨nw, bm, cl⟩ := cls_at P w base T i hi
    have z0 : L2.Same H H := L2.Same.refl H
    walk_at "rd"
    refine ⟨.own _, .exc he0 cl, T.kL i 0 hi (by decide), ?_⟩
    walk_at "rd"
    refine ⟨.own _, .exc he0 cl, T.kL i 1 hi (by decide), ?_⟩
    walk_at "rd"
    refine ⟨.own _, .exc he0 cl, T.kL i 2 hi (by decide), ?_⟩
    walk_at "rd"
    intro l1 n1
    have g1 : (upd H l1 (.lst [V.bl (i == 0), V.bl (i == 1), V.bl (i == 2)])) l1 = some (.lst [V.bl (i == 0), V.bl (i == 1), V.bl (i == 2)]) := upd_same
    have w1 := Same.new (o := .lst [V.bl (i == 0), V.bl (i == 1), V.bl (i == 2)]) n1
    generalize (upd H l1 (.lst [V.bl (i == 0), V.bl (i == 1), V.bl (i == 2)])) = H1 at *
    have he1 := he0.same w1
    have z1 := z0.trans w1
    walk_at "rd"
    refine ⟨.own _, .exc he1 cl, T.kL i 3 hi (by decide), ?_⟩
    walk_at "rd"
    refine ⟨.own _, .exc he1 cl, T.kL i 4 hi (by decide), ?_⟩
    walk_at "rd"
    refine ⟨.own _, .exc he1 cl, T.kL i 5 hi (by decide), ?_⟩
    walk_at "rd"
    intro m2 q2
    refine ⟨l1, m2, _, _, rfl, rfl, Same.new q2 _ _ g1, upd_same, Nat.le_of_ble_eq_true rfl, fun l2 n2 => ?_⟩
    have g2 : (upd (upd H1 m2 (.lst [V.bl (i == 3), V.bl (i == 4), V.bl (i == 5)])) l2 (.lst ([V.bl (i == 0), V.bl (i == 1), V.bl (i == 2)] ++ [V.bl (i == 3), V.bl (i == 4), V.bl (i == 5)]))) l2 = some (.lst ([V.bl (i == 0), V.bl (i == 1), V.bl (i == 2)] ++ [V.bl (i == 3), V.bl (i == 4), V.bl (i == 5)])) := upd_same
    have w2 := (Same.new (o := .lst [V.bl (i == 3), V.bl (i == 4), V.bl (i == 5)]) q2).trans (Same.new (o := .lst ([V.bl (i == 0), V.bl (i == 1), V.bl (i == 2)] ++ [V.bl (i == 3), V.bl (i == 4), V.bl (i == 5)])) n2)
    generalize (upd (upd H1 m2 (.lst [V.bl (i == 3), V.bl (i == 4), V.bl (i == 5)])) l2 (.lst ([V.bl (i == 0), V.bl (i == 1), V.bl (i == 2)] ++ [V.bl (i == 3), V.bl (i == 4), V.bl (i == 5)]))) = H2 at *
    have he2 := he1.same w2
    have z2 := z1.trans w2
    walk_at "rd"
    refine ⟨.own _, .exc he2 cl, T.kL i 6 hi (by decide), ?_⟩
    walk_at "rd"
    refine ⟨.own _, .exc he2 cl, T.kL i 7 hi (by decide), ?_⟩
    walk_at "rd"
    refine ⟨.own _, .exc he2 cl, T.kL i 8 hi (by decide), ?_⟩
    walk_at "rd"
    intro m3 q3
    refine ⟨l2, m3, _, _, rfl, rfl, Same.new q3 _ _ g2, upd_same, Nat.le_of_ble_eq_true rfl, fun l3 n3 => ?_⟩
    have g3 : (upd (upd H2 m3 (.lst [V.bl (i == 6), V.bl (i == 7), V.bl (i == 8)])) l3 (.lst (([V.bl (i == 0), V.bl (i == 1), V.bl (i == 2)] ++ [V.bl (i == 3), V.bl (i == 4), V.bl (i == 5)]) ++ [V.bl (i == 6), V.bl (i == 7), V.bl (i == 8)]))) l3 = some (.lst (([V.bl (i == 0), V.bl (i == 1), V.bl (i == 2)] ++ [V.bl (i == 3), V.bl (i == 4), V.bl (i == 5)]) ++ [V.bl (i == 6), V.bl (i == 7), V.bl (i == 8)])) := upd_same
    have w3 := (Same.new (o := .lst [V.bl (i == 6), V.bl (i == 7), V.bl (i == 8)]) q3).trans (Same.new (o := .lst (([V.bl (i == 0), V.bl (i == 1), V.bl (i == 2)] ++ [V.bl (i == 3), V.bl (i == 4), V.bl (i == 5)]) ++ [V.bl (i == 6), V.bl (i == 7), V.bl (i == 8)])) n3)
    generalize (upd (upd H2 m3 (.lst [V.bl (i == 6), V.bl (i == 7), V.bl (i == 8)])) l3 (.lst (([V.bl (i == 0), V.bl (i == 1), V.bl (i == 2)] ++ [V.bl (i == 3), V.bl (i == 4), V.bl (i == 5)]) ++ [V.bl (i == 6), V.bl (i == 7), V.bl (i == 8)]))) = H3 at *
    have he3 := he2.same w3
    have z3 := z2.trans w3
    walk_at "rd"
    refine ⟨.own _, .exc he3 cl, T.kL i 9 hi (by decide), ?_⟩
    walk_at "rd"
    refine ⟨.own _, .exc he3 cl, T.kL i 10 hi (by decide), ?_⟩
    walk_at "rd"
    intro m4 q4
    refine ⟨l3, m4, _, _, rfl, rfl, Same.new q4 _ _ g3, upd_same, Nat.le_of_ble_eq_true rfl, fun l4 n4 => ?_⟩
    have g4 : (upd (upd H3 m4 (.lst [V.bl (i == 9), V.bl (i == 10)])) l4 (.lst ((([V.bl (i == 0), V.bl (i == 1), V.bl (i == 2)] ++ [V.bl (i == 3), V.bl (i == 4), V.bl (i == 5)]) ++ [V.bl (i == 6), V.bl (i == 7), V.bl (i == 8)]) ++ [V.bl (i == 9), V.bl (i == 10)]))) l4 = some (.lst ((([V.bl (i == 0), V.bl (i == 1), V.bl (i == 2)] ++ [V.bl (i == 3), V.bl (i == 4), V.bl (i == 5)]) ++ [V.bl (i == 6), V.bl (i == 7), V.bl (i == 8)]) ++ [V.bl (i == 9), V.bl (i == 10)])) := upd_same
    have w4 := (Same.new (o := .lst [V.bl (i == 9), V.bl (i == 10)]) q4).trans (Same.new (o := .lst ((([V.bl (i == 0), V.bl (i == 1), V.bl (i == 2)] ++ [V.bl (i == 3), V.bl (i == 4), V.bl (i == 5)]) ++ [V.bl (i == 6), V.bl (i == 7), V.bl (i == 8)]) ++ [V.bl (i == 9), V.bl (i == 10)])) n4)
    generalize (upd (upd H3 m4 (.lst [V.bl (i == 9), V.bl (i == 10)])) l4 (.lst ((([V.bl (i == 0), V.bl (i == 1), V.bl (i == 2)] ++ [V.bl (i == 3), V.bl (i == 4), V.bl (i == 5)]) ++ [V.bl (i == 6), V.bl (i == 7), V.bl (i == 8)]) ++ [V.bl (i == 9), V.bl (i == 10)]))) = H4 at *
    have he4 := he3.same w4
    have z4 := z3.trans w4
    walk_at "rd"
    refine ⟨.own _, .exc he4 cl, T.kL i 11 hi (by decide), ?_⟩
    walk_at "rd"
    refine ⟨.own _, .exc he4 cl, T.kL i 12 hi (by decide), ?_⟩
    walk_at "rd"
    intro m5 q5
    refine ⟨l4, m5, _, _, rfl, rfl, Same.new q5 _ _ g4, upd_same, Nat.le_of_ble_eq_true rfl, fun l5 n5 => ?_⟩
    have g5 : (upd (upd H4 m5 (.lst [V.bl (i == 11), V.bl (i == 12)])) l5 (.lst (((([V.bl (i == 0), V.bl (i == 1), V.bl (i == 2)] ++ [V.bl (i == 3), V.bl (i == 4), V.bl (i == 5)]) ++ [V.bl (i == 6), V.bl (i == 7), V.bl (i == 8)]) ++ [V.bl (i == 9), V.bl (i == 10)]) ++ [V.bl (i == 11), V.bl (i == 12)]))) l5 = some (.lst (((([V.bl (i == 0), V.bl (i == 1), V.bl (i == 2)] ++ [V.bl (i == 3), V.bl (i == 4), V.bl (i == 5)]) ++ [V.bl (i == 6), V.bl (i == 7), V.bl (i == 8)]) ++ [V.bl (i == 9), V.bl (i == 10)]) ++ [V.bl (i == 11), V.bl (i == 12)])) := upd_same
    have w5 := (Same.new (o := .lst [V.bl (i == 11), V.bl (i == 12)]) q5).trans (Same.new (o := .lst (((([V.bl (i == 0), V.bl (i == 1), V.bl (i == 2)] ++ [V.bl (i == 3), V.bl (i == 4), V.bl (i == 5)]) ++ [V.bl (i == 6), V.bl (i == 7), V.bl (i == 8)]) ++ [V.bl (i == 9), V.bl (i == 10)]) ++ [V.bl (i == 11), V.bl (i == 12)])) n5)
    generalize (upd (upd H4 m5 (.lst [V.bl (i == 11), V.bl (i == 12)])) l5 (.lst (((([V.bl (i == 0), V.bl (i == 1), V.bl (i == 2)] ++ [V.bl (i == 3), V.bl (i == 4), V.bl (i == 5)]) ++ [V.bl (i == 6), V.bl (i == 7), V.bl (i == 8)]) ++ [V.bl (i == 9), V.bl (i == 10)]) ++ [V.bl (i == 11), V.bl (i == 12)]))) = H5 at *
    have he5 := he4.same w5
    have z5 := z4.trans w5
    walk_at "rd"
    refine ⟨.own _, .exc he5 cl, T.kL i 13 hi (by decide), ?_⟩
    walk_at "rd"
    refine ⟨.own _, .exc he5 cl, T.kL i 14 hi (by decide), ?_⟩
    walk_at "rd"
    intro m6 q6
    refine ⟨l5, m6, _, _, rfl, rfl, Same.new q6 _ _ g5, upd_same, Nat.le_of_ble_eq_true rfl, fun l6 n6 => ?_⟩
    have g6 : (upd (upd H5 m6 (.lst [V.bl (i == 13), V.bl (i == 14)])) l6 (.lst ((((([V.bl (i == 0), V.bl (i == 1), V.bl (i == 2)] ++ [V.bl (i == 3), V.bl (i == 4), V.bl (i == 5)]) ++ [V.bl (i == 6), V.bl (i == 7), V.bl (i == 8)]) ++ [V.bl (i == 9), V.bl (i == 10)]) ++ [V.bl (i == 11), V.bl (i == 12)]) ++ [V.bl (i == 13), V.bl (i == 14)]))) l6 = some (.lst ((((([V.bl (i == 0), V.bl (i == 1), V.bl (i == 2)] ++ [V.bl (i == 3), V.bl (i == 4), V.bl (i == 5)]) ++ [V.bl (i == 6), V.bl (i == 7), V.bl (i == 8)]) ++ [V.bl (i == 9), V.bl (i == 10)]) ++ [V.bl (i == 11), V.bl (i == 12)]) ++ [V.bl (i == 13), V.bl (i == 14)])) := upd_same
    have w6 := (Same.new (o := .lst [V.bl (i == 13), V.bl (i == 14)]) q6).trans (Same.new (o := .lst ((((([V.bl (i == 0), V.bl (i == 1), V.bl (i == 2)] ++ [V.bl (i == 3), V.bl (i == 4), V.bl (i == 5)]) ++ [V.bl (i == 6), V.bl (i == 7), V.bl (i == 8)]) ++ [V.bl (i == 9), V.bl (i == 10)]) ++ [V.bl (i == 11), V.bl (i == 12)]) ++ [V.bl (i == 13), V.bl (i == 14)])) n6)
    generalize (upd (upd H5 m6 (.lst [V.bl (i == 13), V.bl (i == 14)])) l6 (.lst ((((([V.bl (i == 0), V.bl (i == 1), V.bl (i == 2)] ++ [V.bl (i == 3), V.bl (i == 4), V.bl (i == 5)]) ++ [V.bl (i == 6), V.bl (i == 7), V.bl (i == 8)]) ++ [V.bl (i == 9), V.bl (i == 10)]) ++ [V.bl (i == 11), V.bl (i == 12)]) ++ [V.bl (i == 13), V.bl (i == 14)]))) = H6 at *
    have he6 := he5.same w6
    have z6 := z5.trans w6
    walk_at "rd"
    refine ⟨.own _, .exc he6 cl, T.kL i 15 hi (by decide), ?_⟩
    walk_at "rd"
    refine ⟨.own _, .exc he6 cl, T.kL i 16 hi (by decide), ?_⟩
    walk_at "rd"
    refine ⟨.own _, .exc he6 cl, T.kL i 17 hi (by decide), ?_⟩
    walk_at "rd"
    intro m7 q7
    refine ⟨l6, m7, _, _, rfl, rfl, Same.new q7 _ _ g6, upd_same, Nat.le_of_ble_eq_true rfl, fun l7 n7 => ?_⟩
    have g7 : (upd (upd H6 m7 (.lst [V.bl (i == 15), V.bl (i == 16), V.bl (i == 17)])) l7 (.lst (((((([V.bl (i == 0), V.bl (i == 1), V.bl (i == 2)] ++ [V.bl (i == 3), V.bl (i == 4), V.bl (i == 5)]) ++ [V.bl (i == 6), V.bl (i == 7), V.bl (i == 8)]) ++ [V.bl (i == 9), V.bl (i == 10)]) ++ [V.bl (i == 11), V.bl (i == 12)]) ++ [V.bl (i == 13), V.bl (i == 14)]) ++ [V.bl (i == 15), V.bl (i == 16), V.bl (i == 17)]))) l7 = some (.lst (((((([V.bl (i == 0), V.bl (i == 1), V.bl (i == 2)] ++ [V.bl (i == 3), V.bl (i == 4), V.bl (i == 5)]) ++ [V.bl (i == 6), V.bl (i == 7), V.bl (i == 8)]) ++ [V.bl (i == 9), V.bl (i == 10)]) ++ [V.bl (i == 11), V.bl (i == 12)]) ++ [V.bl (i == 13), V.bl (i == 14)]) ++ [V.bl (i == 15), V.bl (i == 16), V.bl (i == 17)])) := upd_same
    have w7 := (Same.new (o := .lst [V.bl (i == 15), V.bl (i == 16), V.bl (i == 17)]) q7).trans (Same.new (o := .lst (((((([V.bl (i == 0), V.bl (i == 1), V.bl (i == 2)] ++ [V.bl (i == 3), V.bl (i == 4), V.bl (i == 5)]) ++ [V.bl (i == 6), V.bl (i == 7), V.bl (i == 8)]) ++ [V.bl (i == 9), V.bl (i == 10)]) ++ [V.bl (i == 11), V.bl (i == 12)]) ++ [V.bl (i == 13), V.bl (i == 14)]) ++ [V.bl (i == 15), V.bl (i == 16), V.bl (i == 17)])) n7)
    generalize (upd (upd H6 m7 (.lst [V.bl (i == 15), V.bl (i == 16), V.bl (i == 17)])) l7 (.lst (((((([V.bl (i == 0), V.bl (i == 1), V.bl (i == 2)] ++ [V.bl (i == 3), V.bl (i == 4), V.bl (i == 5)]) ++ [V.bl (i == 6), V.bl (i == 7), V.bl (i == 8)]) ++ [V.bl (i == 9), V.bl (i == 10)]) ++ [V.bl (i == 11), V.bl (i == 12)]) ++ [V.bl (i == 13), V.bl (i == 14)]) ++ [V.bl (i == 15), V.bl (i == 16), V.bl (i == 17)]))) = H7 at *
    have he7 := he6.same w7
    have z7 := z6.trans w7
    walk_at "rd"
    refine ⟨.own _, .exc he7 cl, T.kL i 18 hi (by decide), ?_⟩
    walk_at "rd"
    refine ⟨.own _, .exc he7 cl, T.kL i 19 hi (by decide), ?_⟩
    walk_at "rd"
    refine ⟨.own _, .exc he7 cl, T.kL i 20 hi (by decide), ?_⟩
    walk_at "rd"
    intro m8 q8
    refine ⟨l7, m8, _, _, rfl, rfl, Same.new q8 _ _ g7, upd_same, Nat.le_of_ble_eq_true rfl, fun l8 n8 => ?_⟩
    have g8 : (upd (upd H7 m8 (.lst [V.bl (i == 18), V.bl (i == 19), V.bl (i == 20)])) l8 (.lst ((((((([V.bl (i == 0), V.bl (i == 1), V.bl (i == 2)] ++ [V.bl (i == 3), V.bl (i == 4), V.bl (i == 5)]) ++ [V.bl (i == 6), V.bl (i == 7), V.bl (i == 8)]) ++ [V.bl (i == 9), V.bl (i == 10)]) ++ [V.bl (i == 11), V.bl (i == 12)]) ++ [V.bl (i == 13), V.bl (i == 14)]) ++ [V.bl (i == 15), V.bl (i == 16), V.bl (i == 17)]) ++ [V.bl (i == 18), V.bl (i == 19), V.bl (i == 20)]))) l8 = some (.lst ((((((([V.bl (i == 0), V.bl (i == 1), V.bl (i == 2)] ++ [V.bl (i == 3), V.bl (i == 4), V.bl (i == 5)]) ++ [V.bl (i == 6), V.bl (i == 7), V.bl (i == 8)]) ++ [V.bl (i == 9), V.bl (i == 10)]) ++ [V.bl (i == 11), V.bl (i == 12)]) ++ [V.bl (i == 13), V.bl (i == 14)]) ++ [V.bl (i == 15), V.bl (i == 16), V.bl (i == 17)]) ++ [V.bl (i == 18), V.bl (i == 19), V.bl (i == 20)])) := upd_same
    have w8 := (Same.new (o := .lst [V.bl (i == 18), V.bl (i == 19), V.bl (i == 20)]) q8).trans (Same.new (o := .lst ((((((([V.bl (i == 0), V.bl (i == 1), V.bl (i == 2)] ++ [V.bl (i == 3), V.bl (i == 4), V.bl (i == 5)]) ++ [V.bl (i == 6), V.bl (i == 7), V.bl (i == 8)]) ++ [V.bl (i == 9), V.bl (i == 10)]) ++ [V.bl (i == 11), V.bl (i == 12)]) ++ [V.bl (i == 13), V.bl (i == 14)]) ++ [V.bl (i == 15), V.bl (i == 16), V.bl (i == 17)]) ++ [V.bl (i == 18), V.bl (i == 19), V.bl (i == 20)])) n8)
    generalize (upd (upd H7 m8 (.lst [V.bl (i == 18), V.bl (i == 19), V.bl (i == 20)])) l8 (.lst ((((((([V.bl (i == 0), V.bl (i == 1), V.bl (i == 2)] ++ [V.bl (i == 3), V.bl (i == 4), V.bl (i == 5)]) ++ [V.bl (i == 6), V.bl (i == 7), V.bl (i == 8)]) ++ [V.bl (i == 9), V.bl (i == 10)]) ++ [V.bl (i == 11), V.bl (i == 12)]) ++ [V.bl (i == 13), V.bl (i == 14)]) ++ [V.bl (i == 15), V.bl (i == 16), V.bl (i == 17)]) ++ [V.bl (i == 18), V.bl (i == 19), V.bl (i == 20)]))) = H8 at *
    have he8 := he7.same w8
    have z8 := z7.trans w8
    walk_at "rd"
    refine ⟨.own _, .exc he8 cl, T.kL i 21 hi (by decide), ?_⟩
    walk_at "rd"
    refine ⟨.own _, .exc he8 cl, T.kL i 22 hi (by decide), ?_⟩
    walk_at "rd"
    refine ⟨.own _, .exc he8 cl, T.kL i 23 hi (by decide), ?_⟩
    walk_at "rd"
    intro m9 q9
    refine ⟨l8, m9, _, _, rfl, rfl, Same.new q9 _ _ g8, upd_same, Nat.le_of_ble_eq_true rfl, fun l9 n9 => ?_⟩
    have g9 : (upd (upd H8 m9 (.lst [V.bl (i == 21), V.bl (i == 22), V.bl (i == 23)])) l9 (.lst (((((((([V.bl (i == 0), V.bl (i == 1), V.bl (i == 2)] ++ [V.bl (i == 3), V.bl (i == 4), V.bl (i == 5)]) ++ [V.bl (i == 6), V.bl (i == 7), V.bl (i == 8)]) ++ [V.bl (i == 9), V.bl (i == 10)]) ++ [V.bl (i == 11), V.bl (i == 12)]) ++ [V.bl (i == 13), V.bl (i == 14)]) ++ [V.bl (i == 15), V.bl (i == 16), V.bl (i == 17)]) ++ [V.bl (i == 18), V.bl (i == 19), V.bl (i == 20)]) ++ [V.bl (i == 21), V.bl (i == 22), V.bl (i == 23)]))) l9 = some (.lst (((((((([V.bl (i == 0), V.bl (i == 1), V.bl (i == 2)] ++ [V.bl (i == 3), V.bl (i == 4), V.bl (i == 5)]) ++ [V.bl (i == 6), V.bl (i == 7), V.bl (i == 8)]) ++ [V.bl (i == 9), V.bl (i == 10)]) ++ [V.bl (i == 11), V.bl (i == 12)]) ++ [V.bl (i == 13), V.bl (i == 14)]) ++ [V.bl (i == 15), V.bl (i == 16), V.bl (i == 17)]) ++ [V.bl (i == 18), V.bl (i == 19), V.bl (i == 20)]) ++ [V.bl (i == 21), V.bl (i == 22), V.bl (i == 23)])) := upd_same
    have w9 := (Same.new (o := .lst [V.bl (i == 21), V.bl (i == 22), V.bl (i == 23)]) q9).trans (Same.new (o := .lst (((((((([V.bl (i == 0), V.bl (i == 1), V.bl (i == 2)] ++ [V.bl (i == 3), V.bl (i == 4), V.bl (i == 5)]) ++ [V.bl (i == 6), V.bl (i == 7), V.bl (i == 8)]) ++ [V.bl (i == 9), V.bl (i == 10)]) ++ [V.bl (i == 11), V.bl (i == 12)]) ++ [V.bl (i == 13), V.bl (i == 14)]) ++ [V.bl (i == 15), V.bl (i == 16), V.bl (i == 17)]) ++ [V.bl (i == 18), V.bl (i == 19), V.bl (i == 20)]) ++ [V.bl (i == 21), V.bl (i == 22), V.bl (i == 23)])) n9)
    generalize (upd (upd H8 m9 (.lst [V.bl (i == 21), V.bl (i == 22), V.bl (i == 23)])) l9 (.lst (((((((([V.bl (i == 0), V.bl (i == 1), V.bl (i == 2)] ++ [V.bl (i == 3), V.bl (i == 4), V.bl (i == 5)]) ++ [V.bl (i == 6), V.bl (i == 7), V.bl (i == 8)]) ++ [V.bl (i == 9), V.bl (i == 10)]) ++ [V.bl (i == 11), V.bl (i == 12)]) ++ [V.bl (i == 13), V.bl (i == 14)]) ++ [V.bl (i == 15), V.bl (i == 16), V.bl (i == 17)]) ++ [V.bl (i == 18), V.bl (i == 19), V.bl (i == 20)]) ++ [V.bl (i == 21), V.bl (i == 22), V.bl (i == 23)]))) = H9 at *
    have he9 := he8.same w9
    have z9 := z8.trans w9
    walk_at "rd"
    refine ⟨.own _, .exc he9 cl, T.kL i 24 hi (by decide), ?_⟩
    walk_at "rd"
    refine ⟨.own _, .exc he9 cl, T.kL i 25 hi (by decide), ?_⟩
    walk_at "rd"
    refine ⟨.own _, .exc he9 cl, T.kL i 26 hi (by decide), ?_⟩
    walk_at "rd"
    intro m10 q10
    refine ⟨l9, m10, _, _, rfl, rfl, Same.new q10 _ _ g9, upd_same, Nat.le_of_ble_eq_true rfl, fun l10 n10 => ?_⟩
    have g10 : (upd (upd H9 m10 (.lst [V.bl (i == 24), V.bl (i == 25), V.bl (i == 26)])) l10 (.lst ((((((((([V.bl (i == 0), V.bl (i == 1), V.bl (i == 2)] ++ [V.bl (i == 3), V.bl (i == 4), V.bl (i == 5)]) ++ [V.bl (i == 6), V.bl (i == 7), V.bl (i == 8)]) ++ [V.bl (i == 9), V.bl (i == 10)]) ++ [V.bl (i == 11), V.bl (i == 12)]) ++ [V.bl (i == 13), V.bl (i == 14)]) ++ [V.bl (i == 15), V.bl (i == 16), V.bl (i == 17)]) ++ [V.bl (i == 18), V.bl (i == 19), V.bl (i == 20)]) ++ [V.bl (i == 21), V.bl (i == 22), V.bl (i == 23)]) ++ [V.bl (i == 24), V.bl (i == 25), V.bl (i == 26)]))) l10 = some (.lst ((((((((([V.bl (i == 0), V.bl (i == 1), V.bl (i == 2)] ++ [V.bl (i == 3), V.bl (i == 4), V.bl (i == 5)]) ++ [V.bl (i == 6), V.bl (i == 7), V.bl (i == 8)]) ++ [V.bl (i == 9), V.bl (i == 10)]) ++ [V.bl (i == 11), V.bl (i == 12)]) ++ [V.bl (i == 13), V.bl (i == 14)]) ++ [V.bl (i == 15), V.bl (i == 16), V.bl (i == 17)]) ++ [V.bl (i == 18), V.bl (i == 19), V.bl (i == 20)]) ++ [V.bl (i == 21), V.bl (i == 22), V.bl (i == 23)]) ++ [V.bl (i == 24), V.bl (i == 25), V.bl (i == 26)])) := upd_same
    have w10 := (Same.new (o := .lst [V.bl (i == 24), V.bl (i == 25), V.bl (i == 26)]) q10).trans (Same.new (o := .lst ((((((((([V.bl (i == 0), V.bl (i == 1), V.bl (i == 2)] ++ [V.bl (i == 3), V.bl (i == 4), V.bl (i == 5)]) ++ [V.bl (i == 6), V.bl (i == 7), V.bl (i == 8)]) ++ [V.bl (i == 9), V.bl (i == 10)]) ++ [V.bl (i == 11), V.bl (i == 12)]) ++ [V.bl (i == 13), V.bl (i == 14)]) ++ [V.bl (i == 15), V.bl (i == 16), V.bl (i == 17)]) ++ [V.bl (i == 18), V.bl (i == 19), V.bl (i == 20)]) ++ [V.bl (i == 21), V.bl (i == 22), V.bl (i == 23)]) ++ [V.bl (i == 24), V.bl (i == 25), V.bl (i == 26)])) n10)
    generalize (upd (upd H9 m10 (.lst [V.bl (i == 24), V.bl (i == 25), V.bl (i == 26)])) l10 (.lst ((((((((([V.bl (i == 0), V.bl (i == 1), V.bl (i == 2)] ++ [V.bl (i == 3), V.bl (i == 4), V.bl (i == 5)]) ++ [V.bl (i == 6), V.bl (i == 7), V.bl (i == 8)]) ++ [V.bl (i == 9), V.bl (i == 10)]) ++ [V.bl (i == 11), V.bl (i == 12)]) ++ [V.bl (i == 13), V.bl (i == 14)]) ++ [V.bl (i == 15), V.bl (i == 16), V.bl (i == 17)]) ++ [V.bl (i == 18), V.bl (i == 19), V.bl (i == 20)]) ++ [V.bl (i == 21), V.bl (i == 22), V.bl (i == 23)]) ++ [V.bl (i == 24), V.bl (i == 25), V.bl (i == 26)]))) = H10 at *
    have he10 := he9.same w10
    have z10 := z9.trans w10
    walk_at "rd"
    refine ⟨.own _, .exc he10 cl, T.kL i 27 hi (by decide), ?_⟩
    walk_at "rd"
    refine ⟨.own _, .exc he10 cl, T.kL i 28 hi (by decide), ?_⟩
    walk_at "rd"
    refine ⟨.own _, .exc he10 cl, T.kL i 29 hi (by decide), ?_⟩
    walk_at "rd"
    intro m11 q11
    refine ⟨l10, m11, _, _, rfl, rfl, Same.new q11 _ _ g10, upd_same, Nat.le_of_ble_eq_true rfl, fun l11 n11 => ?_⟩
    have g11 : (upd (upd H10 m11 (.lst [V.bl (i == 27), V.bl (i == 28), V.bl (i == 29)])) l11 (.lst (((((((((([V.bl (i == 0), V.bl (i == 1), V.bl (i == 2)] ++ [V.bl (i == 3), V.bl (i == 4), V.bl (i == 5)]) ++ [V.bl (i == 6), V.bl (i == 7), V.bl (i == 8)]) ++ [V.bl (i == 9), V.bl (i == 10)]) ++ [V.bl (i == 11), V.bl (i == 12)]) ++ [V.bl (i == 13), V.bl (i == 14)]) ++ [V.bl (i == 15), V.bl (i == 16), V.bl (i == 17)]) ++ [V.bl (i == 18), V.bl (i == 19), V.bl (i == 20)]) ++ [V.bl (i == 21), V.bl (i == 22), V.bl (i == 23)]) ++ [V.bl (i == 24), V.bl (i == 25), V.bl (i == 26)]) ++ [V.bl (i == 27), V.bl (i == 28), V.bl (i == 29)]))) l11 = some (.lst (((((((((([V.bl (i == 0), V.bl (i == 1), V.bl (i == 2)] ++ [V.bl (i == 3), V.bl (i == 4), V.bl (i == 5)]) ++ [V.bl (i == 6), V.bl (i == 7), V.bl (i == 8)]) ++ [V.bl (i == 9), V.bl (i == 10)]) ++ [V.bl (i == 11), V.bl (i == 12)]) ++ [V.bl (i == 13), V.bl (i == 14)]) ++ [V.bl (i == 15), V.bl (i == 16), V.bl (i == 17)]) ++ [V.bl (i == 18), V.bl (i == 19), V.bl (i == 20)]) ++ [V.bl (i == 21), V.bl (i == 22), V.bl (i == 23)]) ++ [V.bl (i == 24), V.bl (i == 25), V.bl (i == 26)]) ++ [V.bl (i == 27), V.bl (i == 28), V.bl (i == 29)])) := upd_same
    have w11 := (Same.new (o := .lst [V.bl (i == 27), V.bl (i == 28), V.bl (i == 29)]) q11).trans (Same.new (o := .lst (((((((((([V.bl (i == 0), V.bl (i == 1), V.bl (i == 2)] ++ [V.bl (i == 3), V.bl (i == 4), V.bl (i == 5)]) ++ [V.bl (i == 6), V.bl (i == 7), V.bl (i == 8)]) ++ [V.bl (i == 9), V.bl (i == 10)]) ++ [V.bl (i == 11), V.bl (i == 12)]) ++ [V.bl (i == 13), V.bl (i == 14)]) ++ [V.bl (i == 15), V.bl (i == 16), V.bl (i == 17)]) ++ [V.bl (i == 18), V.bl (i == 19), V.bl (i == 20)]) ++ [V.bl (i == 21), V.bl (i == 22), V.bl (i == 23)]) ++ [V.bl (i == 24), V.bl (i == 25), V.bl (i == 26)]) ++ [V.bl (i == 27), V.bl (i == 28), V.bl (i == 29)])) n11)
    generalize (upd (upd H10 m11 (.lst [V.bl (i == 27), V.bl (i == 28), V.bl (i == 29)])) l11 (.lst (((((((((([V.bl (i == 0), V.bl (i == 1), V.bl (i == 2)] ++ [V.bl (i == 3), V.bl (i == 4), V.bl (i == 5)]) ++ [V.bl (i == 6), V.bl (i == 7), V.bl (i == 8)]) ++ [V.bl (i == 9), V.bl (i == 10)]) ++ [V.bl (i == 11), V.bl (i == 12)]) ++ [V.bl (i == 13), V.bl (i == 14)]) ++ [V.bl (i == 15), V.bl (i == 16), V.bl (i == 17)]) ++ [V.bl (i == 18), V.bl (i == 19), V.bl (i == 20)]) ++ [V.bl (i == 21), V.bl (i == 22), V.bl (i == 23)]) ++ [V.bl (i == 24), V.bl (i == 25), V.bl (i == 26)]) ++ [V.bl (i == 27), V.bl (i == 28), V.bl (i == 29)]))) = H11 at *
    have he11 := he10.same w11
    have z11 := z10.trans w11
    walk_at "rd"
    refine ⟨.own _, .exc he11 cl, T.kL i 30 hi (by decide), ?_⟩
    walk_at "rd"
    refine ⟨.own _, .exc he11 cl, T.kL i 31 hi (by decide), ?_⟩
    walk_at "rd"
    refine ⟨.own _, .exc he11 cl, T.kL i 32 hi (by decide), ?_⟩
    walk_at "rd"
    intro m12 q12
    refine ⟨l11, m12, _, _, rfl, rfl, Same.new q12 _ _ g11, upd_same, Nat.le_of_ble_eq_true rfl, fun l12 n12 => ?_⟩
    have g12 : (upd (upd H11 m12 (.lst [V.bl (i == 30), V.bl (i == 31), V.bl (i == 32)])) l12 (.lst ((((((((((([V.bl (i == 0), V.bl (i == 1), V.bl (i == 2)] ++ [V.bl (i == 3), V.bl (i == 4), V.bl (i == 5)]) ++ [V.bl (i == 6), V.bl (i == 7), V.bl (i == 8)]) ++ [V.bl (i == 9), V.bl (i == 10)]) ++ [V.bl (i == 11), V.bl (i == 12)]) ++ [V.bl (i == 13), V.bl (i == 14)]) ++ [V.bl (i == 15), V.bl (i == 16), V.bl (i == 17)]) ++ [V.bl (i == 18), V.bl (i == 19), V.bl (i == 20)]) ++ [V.bl (i == 21), V.bl (i == 22), V.bl (i == 23)]) ++ [V.bl (i == 24), V.bl (i == 25), V.bl (i == 26)]) ++ [V.bl (i == 27), V.bl (i == 28), V.bl (i == 29)]) ++ [V.bl (i == 30), V.bl (i == 31), V.bl (i == 32)]))) l12 = some (.lst ((((((((((([V.bl (i == 0), V.bl (i == 1), V.bl (i == 2)] ++ [V.bl (i == 3), V.bl (i == 4), V.bl (i == 5)]) ++ [V.bl (i == 6), V.bl (i == 7), V.bl (i == 8)]) ++ [V.bl (i == 9), V.bl (i == 10)]) ++ [V.bl (i == 11), V.bl (i == 12)]) ++ [V.bl (i == 13), V.bl (i == 14)]) ++ [V.bl (i == 15), V.bl (i == 16), V.bl (i == 17)]) ++ [V.bl (i == 18), V.bl (i == 19), V.bl (i == 20)]) ++ [V.bl (i == 21), V.bl (i == 22), V.bl (i == 23)]) ++ [V.bl (i == 24), V.bl (i == 25), V.bl (i == 26)]) ++ [V.bl (i == 27), V.bl (i == 28), V.bl (i == 29)]) ++ [V.bl (i == 30), V.bl (i == 31), V.bl (i == 32)])) := upd_same
    have w12 := (Same.new (o := .lst [V.bl (i == 30), V.bl (i == 31), V.bl (i == 32)]) q12).trans (Same.new (o := .lst ((((((((((([V.bl (i == 0), V.bl (i == 1), V.bl (i == 2)] ++ [V.bl (i == 3), V.bl (i == 4), V.bl (i == 5)]) ++ [V.bl (i == 6), V.bl (i == 7), V.bl (i == 8)]) ++ [V.bl (i == 9), V.bl (i == 10)]) ++ [V.bl (i == 11), V.bl (i == 12)]) ++ [V.bl (i == 13), V.bl (i == 14)]) ++ [V.bl (i == 15), V.bl (i == 16), V.bl (i == 17)]) ++ [V.bl (i == 18), V.bl (i == 19), V.bl (i == 20)]) ++ [V.bl (i == 21), V.bl (i == 22), V.bl (i == 23)]) ++ [V.bl (i == 24), V.bl (i == 25), V.bl (i == 26)]) ++ [V.bl (i == 27), V.bl (i == 28), V.bl (i == 29)]) ++ [V.bl (i == 30), V.bl (i == 31), V.bl (i == 32)])) n12)
    generalize (upd (upd H11 m12 (.lst [V.bl (i == 30), V.bl (i == 31), V.bl (i == 32)])) l12 (.lst ((((((((((([V.bl (i == 0), V.bl (i == 1), V.bl (i == 2)] ++ [V.bl (i == 3), V.bl (i == 4), V.bl (i == 5)]) ++ [V.bl (i == 6), V.bl (i == 7), V.bl (i == 8)]) ++ [V.bl (i == 9), V.bl (i == 10)]) ++ [V.bl (i == 11), V.bl (i == 12)]) ++ [V.bl (i == 13), V.bl (i == 14)]) ++ [V.bl (i == 15), V.bl (i == 16), V.bl (i == 17)]) ++ [V.bl (i == 18), V.bl (i == 19), V.bl (i == 20)]) ++ [V.bl (i == 21), V.bl (i == 22), V.bl (i == 23)]) ++ [V.bl (i == 24), V.bl (i == 25), V.bl (i == 26)]) ++ [V.bl (i == 27), V.bl (i == 28), V.bl (i == 29)]) ++ [V.bl (i == 30), V.bl (i == 31), V.bl (i == 32)]))) = H12 at *
    have he12 := he11.same w12
    have z12 := z11.trans w12
    walk_at "rd"
    have ge : H12 l12 = some (.lst ((List.range 33).map fun j => V.bl (i == j))) := g12
    refine ⟨⟨_, SqL.of ge⟩, fun D nD => ?_⟩
    refine lc_pure (n := 33) (G := fun H => SqL K H l12 ((List.range 33).map fun j => V.bl (i == j))) (walk_list (xs := (List.range 33).map fun j => V.bl (i == j))) nD (by omega) (fun _ sm => SqL.of (sm _ _ ge)) (fun j y => y = .int (if (i == j) = true then 1 else 0)) (fun j x H4 H5 Kn Z hi sm y q => ?_) (fun H4 xs sm hD hl hr => ?_)
    · obtain ⟨rfl, hx⟩ := y
      rw [List.getElem?_map, List.getElem?_range hi] at hx
      obtain rfl := (Option.some.inj hx).symm
      refine ⟨rfl, ?_⟩
      show (if true = true then tCB (fun xs H Q => (∃ i, xs = [V.int i] ∧ Q (V.int i) H) ∨ ∃ k, xs = [V.bl k] ∧ Q (V.int (if k = true then 1 else 0)) H) (tCons (tVar 2) tNil) _ H5 Kn else Z H5)
      rw [if_pos rfl]
      refine ⟨_, rfl, Or.inr ⟨_, rfl, ?_⟩⟩
      exact q _ _ (L2.Same.refl _) rfl
    · rw [eq_map hl hr] at hD
      refine ⟨D, (List.range 33).map fun j => if (i == j) = true then (1 : Int) else 0, rfl, SqL.of ?_, ?_⟩
      · rw [hD, List.map_map]
        rfl
      · have e := sum1 i hi
        rw [e]
        exact k _ (z12.trans sm)
end
end K10

set_option Elab.async false
set_option linter.all false
set_option maxRecDepth 100000
set_option maxHeartbeats 4000000
namespace Rp
open PySem L2 Lay Exv
/-- repr of a list, empty or not -/
def rReprE (K : PySem.W.Frag) : List V → Hp → VK → Prop := fun xs H Q => rRepr K xs H Q ∨ ∃ p, xs = [.ref p] ∧ H p = some (.lst []) ∧ Q (.str "[]") H
theorem call_reprE {X : Cx} (hg : X.A.guards = some []) (hu : X.A.units + 200 < cLine) : CallR X (.builtin "repr") (rReprE X.K) := by
  intro pins s σ H xs us Q I r h
  rcases h with h | ⟨p, rfl, hp, q⟩
  · exact call_repr hg hu pins s σ H xs us Q I r h
  · obtain ⟨u, rfl, e⟩ := vals1 r
    cases (show u = Value.ref p from e)
    obtain ⟨_, its, m, rv, e1⟩ := (show ObjOk X.prog X.w H s.heap p (.lst []) from I.hok p _ hp)
    cases rv
    refine call_repr_slot (by omega) ⟨_, e1, rfl⟩ F.slot_list_repr.toG ?_
    exact call_list_repr_empty ⟨_, e1, rfl⟩ e1 rfl ⟨_, _, rfl, ⟨.str "[]", H, I.tok _, ⟨_, rfl⟩, q⟩⟩
end Rp

set_option Elab.async false
set_option linter.all false
set_option maxRecDepth 100000
set_option maxHeartbeats 4000000
namespace K10
open PySem L2 Lay
local macro_rules | `(tactic| walk_at "ne") => `(tactic| first | assumption | (apply Ne.symm; assumption) | exact ne_of_none (by walk_at "look") (by assumption) | exact (ne_of_none (by walk_at "look") (by assumption)).symm)
local macro_rules | `(tactic| walk_at "look") => `(tactic| first | assumption | exact upd_same | (refine Eq.trans (upd_ne ?_) ?_; walk_at "ne"; walk_at "look"))
local macro_rules | `(tactic| walk_at "rds") => `(tactic| first | rfl | assumption | walk_at "look" | exact SqL.of (by walk_at "look") | exact SqT.of (by walk_at "look") | exact Or.inl (SqL.of (by walk_at "look")) | exact Or.inl (by assumption) | decide | omega | exact Nat.le_of_ble_eq_true rfl | exact Or.inr ⟨by decide, by decide⟩ | exact Or.inl ⟨by omega, by omega⟩ | exact ⟨by decide, by decide⟩)
local macro_rules | `(tactic| walk_at "rd1") => `(tactic| first | (apply Exists.intro) | (refine And.intro ?_ ?_; walk_at "rds") | (refine Or.inl ?_; apply Exists.intro; refine And.intro ?_ ?_; rfl))
local macro_rules | `(tactic| walk_at "rd") => `(tactic| repeat walk_at "rd1")
section
variable {P : Program} {w : World} {K : PySem.W.Frag} {mg : Str → Option Value} {base : Heap} {H H' : Hp}
/-- a comprehension whose elements stand on what it made -/
theorem lc_dep {J : It} {n : Nat} {G : Hp → Prop} {Y : Nat → Hp → V → Hp → Prop} (wk : Walk J n G Y) {g : TG} {tt : TT} {te : TE} {vs : List Nat} {σ : L2.St} {H1 : Hp} {D : Addr} {Qd : Hp → Prop} (nD : H1 D = none) (hn : n < 100000)
    (hG : ∀ H, L2.Same H1 H → G H) (R : Hp → V → Prop) (rs : ∀ H H' v, L2.Same H H' → R H v → R H' v) (rm : ∀ H xs ys v, H D = some (.lst xs) → R H v → R (upd H D (.lst ys)) v)
    (hs : ∀ i x H H' (Kn : V → Hp → Prop) (Z : Hp → Prop), i < n → L2.Same H1 H → (∃ xs, H D = some (.lst xs)) → Y i H x H' → (∀ y H4, L2.Same H H4 → R H4 y → Kn y H4) →
      g x (wipe σ vs) H' fun σ2 H2 => wipe σ2 vs = wipe σ vs ∧ tt σ2 H2 fun b H3 => if b = true then te σ2 H3 Kn else Z H3)
    (hd : ∀ H xs, L2.Same H1 H → H D = some (.lst xs) → xs.length = n → (∀ y ∈ xs, R H y) → Qd H) :
    ∃ W : Nat → Nat → Hp → Prop, (∃ m, W 0 m (upd H1 D (.lst []))) ∧ ∀ i m H, W i m H →
      (J.stop i H ∧ Qd H) ∨ (J.go i H ∧ ∃ Nx : Hp → Prop, (∀ H', Nx H' → ∃ m', m' < m ∧ W (i + 1) m' H') ∧ ∀ x H', J.yld i H x H' → g x (wipe σ vs) H' fun σ2 H2 => wipe σ2 vs = wipe σ vs ∧ tt σ2 H2 fun b H3 =>
        if b = true then te σ2 H3 fun y H4 => ∃ acc, H4 D = some (.lst acc) ∧ acc.length < sizeLine ∧ Nx (upd H4 D (.lst (acc ++ [y]))) else Nx H3) := by
  refine lc_it wk (fun i H => L2.Same H1 H ∧ ∃ xs, H D = some (.lst xs) ∧ xs.length = i ∧ ∀ y ∈ xs, R H y) ?_ ?_ ?_ ?_
  · exact ⟨Same.new nD, [], upd_same, rfl, fun y e => by simp at e⟩
  · exact fun i H _ h => hG H h.1
  · intro i x H H' hi ⟨sm, xs, hD, hl, hr⟩ y
    refine hs i x H H' _ _ hi sm ⟨xs, hD⟩ y fun v H4 h4 hv => ⟨xs, h4 _ _ hD, by rw [hl]; exact Nat.lt_trans (Nat.lt_trans hi hn) (by decide), ?_⟩
    refine ⟨Same.mut (sm.trans h4) nD, xs ++ [v], upd_same, by simp [hl], fun y e => ?_⟩
    refine rm _ xs _ _ (h4 _ _ hD) ?_
    rcases List.mem_append.mp e with e | e
    · exact rs _ _ _ h4 (hr y e)
    · obtain rfl := List.mem_singleton.mp e
      exact hv
  · intro H ⟨sm, xs, hD, hl, hr⟩
    exact hd H xs sm hD hl hr
/-- a row (error, its parts, the due ones, its branch) -/
def Row4 (K : PySem.W.Frag) (D : Addr) (x y : V) (H : Hp) (r : V) : Prop := ∃ (T e pl dl : Addr) (i : Nat) (fs : List (Str × V)) (args ps : List V), r = .ref T ∧ i < 33 ∧ H T = some (.tup [.ref e, .ref pl, .ref dl, .int (brI i)]) ∧
  Exv.IsExc H e (He.ga K (leafN i)) fs args ∧ H pl = some (.lst ps) ∧ H dl = some (.lst ps) ∧ pl ≠ D ∧ dl ≠ D ∧ (ps = [x] ∨ ps = [x, y] ∨ ps = [])
theorem Row4.same {D : Addr} {x y : V} {H H' : Hp} {r : V} (s : L2.Same H H') (h : Row4 K D x y H r) : Row4 K D x y H' r := by
  obtain ⟨T, e, pl, dl, i, fs, args, ps, h1, h2, h3, h4, h5, h6, h7⟩ := h
  exact ⟨T, e, pl, dl, i, fs, args, ps, h1, h2, s _ _ h3, h4.same s, s _ _ h5, s _ _ h6, h7⟩
theorem Row4.mut {D : Addr} {x y : V} {H : Hp} {xs ys : List V} {r : V} (hD : H D = some (.lst xs)) (h : Row4 K D x y H r) : Row4 K D x y (upd H D (.lst ys)) r := by
  obtain ⟨T, e, pl, dl, i, fs, args, ps, h1, h2, h3, h4, h5, h6, n1, n2, h7⟩ := h
  refine ⟨T, e, pl, dl, i, fs, args, ps, h1, h2, ?_, exc_mut hD h4, ?_, ?_, n1, n2, h7⟩
  · rw [upd_ne]; exact h3
    intro q
    rw [q, hD] at h3
    cases h3
  · rw [upd_ne n1]; exact h5
  · rw [upd_ne n2]; exact h6
/-- the text of a thing, over containers that are no list but that of a word -/
theorem Tg.swf {x : V} (T : Txt K mg) (h : Tg K H x) : ∃ as t, Rp.Sw K H as x t ∧ as.length ≤ 3 ∧ t.length ≤ 1000 ∧ ∀ a ∈ as, ∀ zs, H a = some (.lst zs) → x = .ref a ∧ zs = [.str "a"] := by
  cases h with
  | int i h => obtain ⟨as, t, h1, h2, h3⟩ := (Tg.int (K := K) (H := H) i h).sw T; cases h1; exact ⟨_, _, .int i (by assumption), h2, h3, fun a z => by simp at z⟩
  | str z h hc => obtain ⟨as, t, h1, h2, h3⟩ := (Tg.str (K := K) (H := H) z h hc).sw T; cases h1; exact ⟨_, _, .str z, h2, h3, fun a z => by simp at z⟩
  | non => exact ⟨[], _, .non, by decide, by decide, fun a z => by simp at z⟩
  | bl b => exact ⟨[], _, .bl b, by decide, by cases b <;> decide, fun a z => by simp at z⟩
  | tup0 a h => exact ⟨[a], _, .tup h .nil (by simp), by simp, by decide +kernel, fun b z zs q => by obtain rfl := List.mem_singleton.mp z; rw [h] at q; cases q⟩
  | lst0 a h => exact ⟨[], _, .lst0 h, by decide, by decide +kernel, fun a z => by simp at z⟩
  | dct0 a h => exact ⟨[a], _, .dct h .nil .nil (by simp), by simp, by decide +kernel, fun b z zs q => by obtain rfl := List.mem_singleton.mp z; rw [h] at q; cases q⟩
  | lst1 a h => exact ⟨[a], _, .lst h (.cons (.str _) .nil) (by simp), by simp, by decide +kernel, fun b z zs q => by obtain rfl := List.mem_singleton.mp z; rw [h] at q; cases q; exact ⟨rfl, rfl⟩⟩
  | tup1 a h => exact ⟨[a], _, .tup h (.cons (.str _) .nil) (by simp), by simp, by decide +kernel, fun b z zs q => by obtain rfl := List.mem_singleton.mp z; rw [h] at q; cases q⟩
  | dct1 a h => exact ⟨[a], _, .dct h (.cons (.str _) .nil) (.cons (.int 1 (by decide)) .nil) (by simp), by simp, by decide +kernel, fun b z zs q => by obtain rfl := List.mem_singleton.mp z; rw [h] at q; cases q⟩
  | exc a h =>
    obtain ⟨t, ht, h⟩ := h
    rcases h with ⟨z, _⟩ | ⟨d, h, hd⟩
    · cases z
    · exact ⟨[t], _, .exc d h hd ht T.cr (.cons (.str _) (.cons (.int 1 (by decide)) .nil)) (by simp) (by decide), by simp, by decide +kernel, fun b z zs q => by obtain rfl := List.mem_singleton.mp z; rw [ht] at q; cases q⟩
/-- an error with two fields -/
def Good2 (K : PySem.W.Frag) (H : Hp) (f g : Str) (b : Int) (x y v : V) : Prop := ∃ (e : Addr) (i : Nat) (fs : List (Str × V)) (args : List V), v = .ref e ∧ i < 33 ∧ (brI i : Int) = b ∧ Exv.IsExc H e (He.ga K (leafN i)) fs args ∧
  (∃ newId bmB, Exv.Cl K (He.ga K (leafN i)) newId bmB) ∧ PySem.W.findIn K (.ref (He.ga K (leafN i))) f = some none ∧ PySem.W.findIn K (.ref (He.ga K (leafN i))) g = some none ∧ fs.lookup f = some x ∧ fs.lookup g = some y
theorem Good2.mut {H : Hp} {l : Addr} {xs ys : List V} {f g : Str} {b : Int} {x y v : V} (hl : H l = some (.lst xs)) (h : Good2 K H f g b x y v) : Good2 K (upd H l (.lst ys)) f g b x y v := by
  obtain ⟨e, i, fs, args, h1, h2, h3, h4, h5⟩ := h
  exact ⟨e, i, fs, args, h1, h2, h3, exc_mut hl h4, h5⟩
theorem Good2.same {H H' : Hp} {f g : Str} {b : Int} {x y v : V} (s : L2.Same H H') (h : Good2 K H f g b x y v) : Good2 K H' f g b x y v := by
  obtain ⟨e, i, fs, args, h1, h2, h3, h4, h5⟩ := h
  exact ⟨e, i, fs, args, h1, h2, h3, h4.same s, h5⟩
/-- what stands between the statements of _law_errors_right -/
def St (K : PySem.W.Frag) (p D : Addr) (x y : V) (H0 : Hp) (n : Nat) (σ : L2.St) (H : Hp) : Prop := ∃ (a b c d e : Option V) (rs : List V), σ = [some (.ref p), some x, some y, some (.ref D), a, b, c, d, e] ∧ L2.Same H0 H ∧ H D = some (.lst rs) ∧ rs.length = n ∧ ∀ r ∈ rs, Row4 K D x y H r
theorem loop4 {H H0 : Hp} {a D p : Addr} {ys : List V} {n : Nat} {x y : V} {σ : L2.St} {f g : Str} {b : Int} {Ds : Ends} (ha : H a = some (.lst ys)) (na : a ≠ D) (st : St K p D x y H0 n σ H) (hy : ∀ v ∈ ys, Good2 K H f g b x y v)
    (len : n + ys.length ≤ 60) (nl : H0 D = none) (k : ∀ σ' H', St K p D x y H0 (n + ys.length) σ' H' → Ds.nx σ' H') :
    ∃ W : Nat → Nat → L2.St → Hp → Prop, (∃ m, W 0 m σ H) ∧ ∀ i m σ H, W i m σ H →
      ((Itl K a).stop i H ∧ Ds.nx σ H) ∨ ((Itl K a).go i H ∧ ∃ N : L2.St → Hp → Prop, (∀ σ' H', N σ' H' → ∃ m', m' < m ∧ W (i + 1) m' σ' H') ∧ ∀ x H', (Itl K a).yld i H x H' → gName 4 x σ H' fun σ2 H2 =>
        tDrop (tBM K "list" rAppend (tVar 3) (tCons (tTup (tCons (tVar 4) (tCons (tLst (tCons (Exv.tAt K f (tVar 4)) (tCons (Exv.tAt K g (tVar 4)) tNil))) (tCons (tLst (tCons (tVar 1) (tCons (tVar 2) tNil))) (tCons (tC (.int b)) tNil))))) tNil)) { Ds with nx := N, ct := N, bk := Ds.nx } σ2 H2) := by
  refine for_list (xs := ys) (fun i σ H' => St K p D x y H0 (n + i) σ H' ∧ H' a = some (.lst ys) ∧ ∀ v ∈ ys, Good2 K H' f g b x y v) ⟨st, ha, hy⟩ (fun i σ H' hi h => SqL.of h.2.1) (fun i v σ H' hi ⟨st, ha, hy⟩ => ?_) (fun σ H' h => k _ _ h.1)
  obtain ⟨a0, b0, c0, d0, e0, rs, rfl, sm, hD, hl, hr⟩ := st
  have hlt : i < ys.length := (List.getElem?_eq_some_iff.mp hi).1
  have gd := hy v (List.mem_of_getElem? hi)
  obtain ⟨e, j, fs, args, rfl, hj, hb, ge, gc, gf, gg, gl, gm⟩ := gd
  refine ⟨_, rfl, ty_lst hD, _, rfl, _, rfl, ?_⟩
  refine ⟨e, _, fs, args, x, rfl, ge, gc, gf, gl, ?_⟩
  refine ⟨_, rfl, ?_⟩
  refine ⟨e, _, fs, args, y, rfl, ge, gc, gg, gm, Nat.le_of_ble_eq_true rfl, fun pl npl => ?_⟩
  walk_at "rd"
  intro dl ndl
  walk_at "rd"
  intro T nT
  have q1 := Same.new (o := .lst [x, y]) npl
  have q2 := Same.new (o := .lst [x, y]) ndl
  have q3 := Same.new (o := .tup [.ref e, .ref pl, .ref dl, .int b]) nT
  have q := q1.trans (q2.trans q3)
  refine ⟨D, rs, .ref T, rfl, rfl, q _ _ hD, Nat.lt_of_le_of_lt (m := 60) (by omega) (by decide), ?_⟩
  refine ⟨⟨_, _, _, _, _, rs ++ [.ref T], rfl, Same.mut (sm.trans q) nl, upd_same, by simp [hl]; omega, fun r h => ?_⟩, ?_, fun v hv => Good2.mut (q _ _ hD) ((hy v hv).same q)⟩
  · refine Row4.mut (q _ _ hD) ?_
    rcases List.mem_append.mp h with h | h
    · exact (hr r h).same q
    · obtain rfl := List.mem_singleton.mp h
      subst hb
      exact ⟨T, e, pl, dl, j, fs, args, [x, y], rfl, hj, upd_same, ge.same q, q3 _ _ (q2 _ _ upd_same), q3 _ _ upd_same, fun z => ne_of_none hD npl z.symm, fun z => ne_of_none (q1 _ _ hD) ndl z.symm, .inr (.inl rfl)⟩
  · rw [upd_ne na]; exact q _ _ ha
/-- repr of the parts, the same text at each list of them -/
theorem repr_ps {x y : V} {ps : List V} (T : Txt K mg) (hx : Tg K H x) (hy : Tg K H y) (hps : ps = [x] ∨ ps = [x, y] ∨ ps = []) : ∃ z : Str, ∀ (a : Addr) (Q : VK), H a = some (.lst ps) → Q (.str z) H → Rp.rReprE K [.ref a] H Q := by
  obtain ⟨as, t, sw, la, lt, fr⟩ := hx.swf T
  obtain ⟨bs, u, sv, lb, lu, fs⟩ := hy.swf T
  rcases hps with rfl | rfl | rfl
  · refine ⟨listText [t], fun a Q h q => .inl ⟨a, as ++ [], [x], [t], rfl, h, .cons sw .nil, by simp, fun m => ?_, by simp; omega, ?_, q⟩⟩
    · rw [List.append_nil] at m
      obtain ⟨e1, e2⟩ := fr a m _ h
      rw [e1] at e2
      cases e2
    · refine Nat.le_trans (listText_len_le _) (Nat.le_trans (m := 2000) ?_ (by decide))
      simp; omega
  · refine ⟨listText [t, u], fun a Q h q => .inl ⟨a, as ++ (bs ++ []), [x, y], [t, u], rfl, h, .cons sw (.cons sv .nil), by simp, fun m => ?_, by simp; omega, ?_, q⟩⟩
    · rw [List.append_nil] at m
      rcases List.mem_append.mp m with m | m
      · exact absurd (fr a m _ h).2 (by simp)
      · exact absurd (fs a m _ h).2 (by simp)
    · refine Nat.le_trans (listText_len_le _) (Nat.le_trans (m := 4000) ?_ (by decide))
      simp; omega
  · exact ⟨"[]", fun a Q h q => .inr ⟨a, rfl, h, q⟩⟩
theorem dp_brL {b : Nat} {a : Addr} (hb : b < 4) (h : H a = some (.lst (brL b))) : Dp K H (.ref a) (.list ((List.range 8).map fun i => .bool (i == b || i == b + 4))) := by
  refine .lst (SqL.of h) ?_
  match b, hb with
  | 0, _ => exact .cons (.bl _) (.cons (.bl _) (.cons (.bl _) (.cons (.bl _) (.cons (.bl _) (.cons (.bl _) (.cons (.bl _) (.cons (.bl _) .nil)))))))
  | 1, _ => exact .cons (.bl _) (.cons (.bl _) (.cons (.bl _) (.cons (.bl _) (.cons (.bl _) (.cons (.bl _) (.cons (.bl _) (.cons (.bl _) .nil)))))))
  | 2, _ => exact .cons (.bl _) (.cons (.bl _) (.cons (.bl _) (.cons (.bl _) (.cons (.bl _) (.cons (.bl _) (.cons (.bl _) (.cons (.bl _) .nil)))))))
  | 3, _ => exact .cons (.bl _) (.cons (.bl _) (.cons (.bl _) (.cons (.bl _) (.cons (.bl _) (.cons (.bl _) (.cons (.bl _) (.cons (.bl _) .nil)))))))
theorem eqv_brL : ∀ b, b < 4 → PyData.eqv (.list ((List.range 8).map fun i => .bool (i == b || i == b + 4))) (.list ((List.range 8).map fun i => .bool (i == b || i == b + 4))) = true ∧ SeqAt.shaped (.list ((List.range 8).map fun i => .bool (i == b || i == b + 4))) = true := by
  intro b hb
  match b, hb with
  | 0, _ => exact ⟨by decide +kernel, by decide +kernel⟩
  | 1, _ => exact ⟨by decide +kernel, by decide +kernel⟩
  | 2, _ => exact ⟨by decide +kernel, by decide +kernel⟩
  | 3, _ => exact ⟨by decide +kernel, by decide +kernel⟩
end
end K10

set_option Elab.async false
set_option linter.all false
set_option maxRecDepth 100000
set_option maxHeartbeats 4000000
namespace K10
open PySem L2 Lay
local macro_rules | `(tactic| walk_at "ne") => `(tactic| first | assumption | (apply Ne.symm; assumption) | exact ne_of_none (by walk_at "look") (by assumption) | exact (ne_of_none (by walk_at "look") (by assumption)).symm)
local macro_rules | `(tactic| walk_at "look") => `(tactic| first | assumption | exact upd_same | (refine Eq.trans (upd_ne ?_) ?_; walk_at "ne"; walk_at "look"))
local macro_rules | `(tactic| walk_at "rds") => `(tactic| first | rfl | assumption | walk_at "look" | exact SqL.of (by walk_at "look") | exact SqT.of (by walk_at "look") | exact Or.inl (SqL.of (by walk_at "look")) | exact Or.inl (by assumption) | decide | omega | exact Nat.le_of_ble_eq_true rfl | exact Or.inr ⟨by decide, by decide⟩ | exact Or.inl ⟨by omega, by omega⟩ | exact ⟨by decide, by decide⟩)
local macro_rules | `(tactic| walk_at "rd1") => `(tactic| first | (apply Exists.intro) | (refine And.intro ?_ ?_; walk_at "rds") | (refine Or.inl ?_; apply Exists.intro; refine And.intro ?_ ?_; rfl))
local macro_rules | `(tactic| walk_at "rd") => `(tactic| repeat walk_at "rd1")
theorem un64 {k : Nat} {B : Around} (hr : Room k B) : B.units + 64 < cLine := by
  have := hr.un
  omega
theorem pg_tupK {X : Cx} {es : List Expr} {k : Nat} {t : TGs} {n : Nat} {K : PySem.W.Frag} {pos : Pos} (hK : X.K = K) (hc : X.calm = true) (h : PGs X es t)
    (hn : (assignEach es X.env).length = n := by rfl) (hst : (assignEach es X.env).findIdx? (·.1) = none := by rfl) : PG X (.Tuple es k pos) (gTup K n t) := hK ▸ pg_tup hc h hn hst
section
variable {P : Program} {w : World} {K : PySem.W.Frag} {mg : Str → Option Value} {base : Heap}
theorem d_errors (T : Txt K mg) : Df P w K mg base 4 "_law_errors_right" ["_law_pot_here"] spTrue := by
  have D_l_thing := d_thing (P := P) (w := w) (base := base) T
  have D_l_singles := d_singles (P := P) (w := w) (base := base) T
  have D_l_branches := d_branches (P := P) (w := w) (base := base) T
  have D_l_due := d_due (P := P) (w := w) (base := base) T
  have D_l_many_own := d_many_own (P := P) (w := w) (base := base) T
  refine T.S_l_errors_right.by sc_l_errors_right (fun vs H Q E h => ?_) (fun f cdv A outer s H vs Q E hr hgd h => ?_)
  · obtain ⟨p, rfl, _⟩ := h; rfl
  · obtain ⟨p, rfl, hp, k⟩ := h
    refine ⟨_, (pss_cons (ps_asg (pe_tup (pa_cons (pe_ix ix_tup (pe_own D_l_thing (hr.mono (by first | decide | omega)) hgd (pa_cons (pv 0) pa_nil)) pe_int (fun _ _ => rfl)) (pa_cons (pe_ix ix_tup (pe_own D_l_thing (hr.mono (by first | decide | omega)) hgd (pa_cons (pv 0) pa_nil)) pe_int (fun _ _ => rfl)) pa_nil))) (pg_tup rfl (pgs_cons (pg_name (i := 1) sc_l_errors_right.nd rfl (by first | exact Or.inl rfl | exact Or.inr rfl)) (pgs_cons (pg_name (i := 2) sc_l_errors_right.nd rfl (by first | exact Or.inl rfl | exact Or.inr rfl)) pgs_nil))))
      (pss_cons (ps_setLc (i := 3) (own := [("_law_made", 4), ("_law_part", 8), ("_law_branch", 7)]) rfl sc_l_errors_right.nd rfl rfl (sw_true rfl rfl rfl (by decide +kernel)) (pi_list (pe_own D_l_singles (hr.mono (by first | decide | omega)) hgd (pa_cons (pv 1) pa_nil))) (blkOk_by (own := [("_law_made", 4), ("_law_part", 8), ("_law_branch", 7)]) (N := ["_law_pot_here", "_law_thing_here", "_law_mate", "_law_rows", "_law_made", "_law_parts", "_law_due_here", "_law_branch", "_law_part"]) (sc := defScope s_l_errors_right) (by decide +kernel)) (fun _ _ _ _ _ => (pg_tupK (K := K) (n := 3) rfl rfl (pgs_cons (pg_name (i := 4) sc_l_errors_right.nd rfl (by first | exact Or.inl rfl | exact Or.inr rfl)) (pgs_cons (pg_name (i := 8) sc_l_errors_right.nd rfl (by first | exact Or.inl rfl | exact Or.inr rfl)) (pgs_cons (pg_name (i := 7) sc_l_errors_right.nd rfl (by first | exact Or.inl rfl | exact Or.inr rfl)) pgs_nil))))) (fun _ _ _ _ _ => pts_nil) (fun _ _ _ _ _ => (pe_tup (pa_cons (pv 4) (pa_cons (pe_lst (pa_cons (pv 8) pa_nil)) (pa_cons (pe_lst (pa_cons (pv 1) pa_nil)) (pa_cons (pv 7) pa_nil)))))))
      (pss_cons (ps_for PassesOwn.never rfl (pi_list (pe_lst (pa_cons (Exv.pe_mk Exv.bsR (T.e_SameKinds _ _ _) (by decide) (hr.mono (by first | decide | omega)) (pa_cons (pv 1) (pa_cons (pv 2) pa_nil))) (pa_cons (Exv.pe_mkK Exv.bsR (T.e_SameKinds _ _ _) rfl (hr.mono (by first | decide | omega)) (pk_cons (pv 2) (pk_cons (pv 1) pk_nil))) (pa_cons (Exv.pe_mk Exv.bsR (T.e_OtherPiece _ _ _) (by decide) (hr.mono (by first | decide | omega)) (pa_cons (pv 1) (pa_cons (pv 2) pa_nil))) pa_nil))))) (pg_name (i := 4) sc_l_errors_right.nd rfl (by first | exact Or.inl rfl | exact Or.inr rfl)) (pss_one (ps_expr (pe_bm PySem.F.plainAttrs_list PySem.F.slot_list_append PySem.F.type_list_append mt_append (pv 3) (pa_cons (pe_tup (pa_cons (pv 4) (pa_cons (pe_lst (pa_cons (Exv.pe_at (pv 4)) (pa_cons (Exv.pe_at (pv 4)) pa_nil))) (pa_cons (pe_lst (pa_cons (pv 1) (pa_cons (pv 2) pa_nil))) (pa_cons pe_int pa_nil))))) pa_nil)))))
      (pss_cons (ps_for PassesOwn.never rfl (pi_list (pe_lst (pa_cons (Exv.pe_mk Exv.bsA (T.e_TooMany _ _ _) (by decide) (hr.mono (by first | decide | omega)) (pa_cons (pv 1) (pa_cons (pv 2) pa_nil))) (pa_cons (Exv.pe_mkK Exv.bsA (T.e_TooMany _ _ _) rfl (hr.mono (by first | decide | omega)) (pk_cons (pv 2) (pk_cons (pv 1) pk_nil))) pa_nil)))) (pg_name (i := 4) sc_l_errors_right.nd rfl (by first | exact Or.inl rfl | exact Or.inr rfl)) (pss_one (ps_expr (pe_bm PySem.F.plainAttrs_list PySem.F.slot_list_append PySem.F.type_list_append mt_append (pv 3) (pa_cons (pe_tup (pa_cons (pv 4) (pa_cons (pe_lst (pa_cons (Exv.pe_at (pv 4)) (pa_cons (Exv.pe_at (pv 4)) pa_nil))) (pa_cons (pe_lst (pa_cons (pv 1) (pa_cons (pv 2) pa_nil))) (pa_cons pe_int pa_nil))))) pa_nil)))))
      (pss_cons (ps_expr (pe_bm PySem.F.plainAttrs_list PySem.F.slot_list_extend PySem.F.type_list_extend mt_extend (pv 3) (pa_cons (pe_lst (pa_cons (pe_tup (pa_cons (Exv.pe_mk0 Exv.bsR (T.e_NoAnswer _ _ _) (hr.mono (by first | decide | omega))) (pa_cons (pe_lst pa_nil) (pa_cons (pe_lst pa_nil) (pa_cons pe_int pa_nil))))) (pa_cons (pe_tup (pa_cons (Exv.pe_mk0 Exv.bsR (T.e_NothingToUndo _ _ _) (hr.mono (by first | decide | omega))) (pa_cons (pe_lst pa_nil) (pa_cons (pe_lst pa_nil) (pa_cons pe_int pa_nil))))) pa_nil))) pa_nil)))
      (pss_cons (ps_for PassesOwn.never rfl (pi_list (pv 3)) (pg_tup rfl (pgs_cons (pg_name (i := 4) sc_l_errors_right.nd rfl (by first | exact Or.inl rfl | exact Or.inr rfl)) (pgs_cons (pg_name (i := 5) sc_l_errors_right.nd rfl (by first | exact Or.inl rfl | exact Or.inr rfl)) (pgs_cons (pg_name (i := 6) sc_l_errors_right.nd rfl (by first | exact Or.inl rfl | exact Or.inr rfl)) (pgs_cons (pg_name (i := 7) sc_l_errors_right.nd rfl (by first | exact Or.inl rfl | exact Or.inr rfl)) pgs_nil))))) (pss_one (ps_if (PW.pt (pw_or (pt_cmpR op_ne (pe_callB (Rp.call_reprE hgd (un200 hr)) (by rfl) T.n_repr (by decide +kernel) (pa_cons (pv 5) pa_nil)) (pe_callB (Rp.call_reprE hgd (un200 hr)) (by rfl) T.n_repr (by decide +kernel) (pa_cons (pv 6) pa_nil)) (nomark _)) (pw_or (pt_cmpR (op_neD (un64 hr)) (pe_own D_l_branches (hr.mono (by first | decide | omega)) hgd (pa_cons (pv 4) pa_nil)) (pe_own D_l_due (hr.mono (by first | decide | omega)) hgd (pa_cons (pv 7) pa_nil)) (nomark _)) (pw_or1 (pt_cmpR op_ne (pe_own D_l_many_own (hr.mono (by first | decide | omega)) hgd (pa_cons (pv 4) pa_nil)) pe_int (nomark _)))))) (pss_one (ps_ret pe_bl)) pss_nil)))
      (pss_one (ps_ret (pe_cmpR op_eq (pe_callB call_len_seq (by rfl) T.n_len PySem.boot_len (pa_cons (pv 3) pa_nil)) pe_int (nomark _)))))))))), ?_⟩
    walk_at "rd"
    intro x t1 l1 H1 hx1 s1 ht1 _
    have hp1 := s1 _ _ hp
    walk_at "rd"
    intro y t2 l2 H2 hy2 s2 ht2 _
    have hx2 := hx1.same s2
    walk_at "rd"
    intro tt ntt
    have hx3 := hx2.same (Same.new (o := .tup [x, y]) ntt)
    have hy3 := hy2.same (Same.new (o := .tup [x, y]) ntt)
    have s3 := (s1.trans s2).trans (Same.new (o := .tup [x, y]) ntt)
    have e3 : (upd H2 tt (.tup [x, y])) tt = some (.tup [x, y]) := upd_same
    generalize (upd H2 tt (.tup [x, y])) = H3 at *
    walk_at "rd"
    intro H4 lS rs s4 hS cS rS
    have hx4 := hx3.same s4
    have hy4 := hy3.same s4
    walk_at "rd"
    refine ⟨⟨_, SqL.of hS⟩, fun D nD => ?_⟩
    refine lc_dep (walk_list (xs := rs)) nD (by omega) (fun _ sm => SqL.of (sm _ _ hS)) (Row4 K D x y) (fun _ _ _ sm h => h.same sm) (fun _ _ _ _ e h => Row4.mut e h) (fun i r H5 H6 Kn Z hi sm ⟨zs, hz⟩ yy q => ?_) (fun H5 zs sm hD hl hr => ?_)
    · obtain ⟨rfl, hr⟩ := yy
      have hlt : i < rs.length := hi
      obtain ⟨T0, e, j, fs, args, rfl, hj, ht, he⟩ := (rS _ (List.mem_of_getElem? hr)).same sm
      refine ⟨T0, _, rfl, SqT.of ht, rfl, ?_⟩
      walk_at "rd"
      intro pl npl
      walk_at "rd"
      intro dl ndl
      walk_at "rd"
      intro T1 nT1
      have q1 := Same.new (o := .lst [x]) npl
      have q2 := Same.new (o := .lst [x]) ndl
      have q3 := Same.new (o := .tup [.ref e, .ref pl, .ref dl, .int (brI j)]) nT1
      refine q _ _ (q1.trans (q2.trans q3)) ⟨T1, e, pl, dl, j, fs, args, [x], rfl, hj, upd_same, he.same (q1.trans (q2.trans q3)), q3 _ _ (q2 _ _ upd_same), q3 _ _ upd_same, fun z => ne_of_none hz npl z.symm, fun z => ne_of_none (q1 _ _ hz) ndl z.symm, .inl rfl⟩
    have hD0 := hD
    rw [cS] at hl
    walk_at "rd"
    intro e1_0 G1_0 n1_0 s1_0 x1_0
    walk_at "rd"
    intro e1_1 G1_1 n1_1 s1_1 x1_1
    walk_at "rd"
    intro e1_2 G1_2 n1_2 s1_2 x1_2
    walk_at "rd"
    intro a1 m1
    have z1 : L2.Same H5 (upd G1_2 a1 (.lst [V.ref e1_0, V.ref e1_1, V.ref e1_2])) := (s1_0.trans (s1_1.trans (s1_2.trans (Same.new m1))))
    have zD1 := (s1_0.trans (s1_1.trans s1_2)) _ _ hD0
    refine ⟨a1, rfl, ⟨_, SqL.of upd_same⟩, loop4 (K := K) (p := p) (x := x) (y := y) (D := D) (H0 := H4) (n := 28) (ys := [V.ref e1_0, V.ref e1_1, V.ref e1_2]) (f := "one") (g := "other") (b := 2) upd_same ?_ ?_ ?_ (Nat.le_of_ble_eq_true rfl) nD fun σ1 F1 st1 => ?_⟩
    · exact fun q => ne_of_none zD1 m1 q.symm
    · exact ⟨none, none, none, none, none, zs, rfl, sm.trans z1, z1 _ _ hD0, hl, fun r h => (hr r h).same z1⟩
    · intro v hv
      simp only [List.mem_cons, List.not_mem_nil, or_false] at hv
      rcases hv with rfl | rfl | rfl
      · exact ⟨_, 24, _, _, rfl, by decide, rfl, x1_0.same (s1_1.trans (s1_2.trans (Same.new m1))), ⟨_, _, (T.e_SameKinds P w base).cl⟩, T.no_SameKinds_one, T.no_SameKinds_other, rfl, rfl⟩
      · exact ⟨_, 24, _, _, rfl, by decide, rfl, x1_1.same (s1_2.trans (Same.new m1)), ⟨_, _, (T.e_SameKinds P w base).cl⟩, T.no_SameKinds_one, T.no_SameKinds_other, rfl, rfl⟩
      · exact ⟨_, 26, _, _, rfl, by decide, rfl, x1_2.same (Same.new m1), ⟨_, _, (T.e_OtherPiece P w base).cl⟩, T.no_OtherPiece_one, T.no_OtherPiece_other, rfl, rfl⟩
    obtain ⟨u1, v1, w1, r1, q1, rs1, rfl, sm1, hD1, hl1, hr1⟩ := st1
    walk_at "rd"
    intro e2_0 G2_0 n2_0 s2_0 x2_0
    walk_at "rd"
    intro e2_1 G2_1 n2_1 s2_1 x2_1
    walk_at "rd"
    intro a2 m2
    have z2 : L2.Same F1 (upd G2_1 a2 (.lst [V.ref e2_0, V.ref e2_1])) := (s2_0.trans (s2_1.trans (Same.new m2)))
    have zD2 := (s2_0.trans s2_1) _ _ hD1
    refine ⟨a2, rfl, ⟨_, SqL.of upd_same⟩, loop4 (K := K) (p := p) (x := x) (y := y) (D := D) (H0 := H4) (n := 31) (ys := [V.ref e2_0, V.ref e2_1]) (f := "what") (g := "limit") (b := 3) upd_same ?_ ?_ ?_ (Nat.le_of_ble_eq_true rfl) nD fun σ2 F2 st2 => ?_⟩
    · exact fun q => ne_of_none zD2 m2 q.symm
    · exact ⟨u1, v1, w1, r1, q1, rs1, rfl, sm1.trans z2, z2 _ _ hD1, hl1, fun r h => (hr1 r h).same z2⟩
    · intro v hv
      simp only [List.mem_cons, List.not_mem_nil, or_false] at hv
      rcases hv with rfl | rfl
      · exact ⟨_, 32, _, _, rfl, by decide, rfl, x2_0.same (s2_1.trans (Same.new m2)), ⟨_, _, (T.e_TooMany P w base).cl⟩, T.no_TooMany_what, T.no_TooMany_limit, rfl, rfl⟩
      · exact ⟨_, 32, _, _, rfl, by decide, rfl, x2_1.same (Same.new m2), ⟨_, _, (T.e_TooMany P w base).cl⟩, T.no_TooMany_what, T.no_TooMany_limit, rfl, rfl⟩
    obtain ⟨u2, v2, w2, r2, q2, rs2, rfl, sm2, hD2, hl2, hr2⟩ := st2
    walk_at "rd"
    refine ⟨ty_lst hD2, ?_⟩
    walk_at "rd"
    intro e3 G3 n3 s3' x3
    walk_at "rd"
    intro pl3 npl3
    walk_at "rd"
    intro dl3 ndl3
    walk_at "rd"
    intro T3 nT3
    walk_at "rd"
    intro e4 G4 n4 s4' x4
    walk_at "rd"
    intro pl4 npl4
    walk_at "rd"
    intro dl4 ndl4
    walk_at "rd"
    intro T4 nT4
    walk_at "rd"
    intro b5 nb5
    have p1 := Same.new (o := .lst []) npl3
    have p2 := Same.new (o := .lst []) ndl3
    have p3 := Same.new (o := .tup [.ref e3, .ref pl3, .ref dl3, .int 2]) nT3
    have p4 := Same.new (o := .lst []) npl4
    have p5 := Same.new (o := .lst []) ndl4
    have p6 := Same.new (o := .tup [.ref e4, .ref pl4, .ref dl4, .int 2]) nT4
    have p7 := Same.new (o := .lst [.ref T3, .ref T4]) nb5
    have c4 := p4.trans (p5.trans (p6.trans p7))
    have c3 := s4'.trans c4
    have cc := s3'.trans (p1.trans (p2.trans (p3.trans c3)))
    refine ⟨D, b5, rs2, _, rfl, rfl, cc _ _ hD2, upd_same, Nat.le_trans (m := 60) (by rw [hl2]; exact Nat.le_of_ble_eq_true rfl) (by decide), ?_⟩
    have r3 : Row4 K D x y _ (.ref T3) := ⟨T3, e3, pl3, dl3, 29, _, _, [], rfl, by decide, c3 _ _ upd_same, x3.same (p1.trans (p2.trans (p3.trans c3))), c3 _ _ (p3 _ _ (p2 _ _ upd_same)), c3 _ _ (p3 _ _ upd_same),
      fun z => ne_of_none (s3' _ _ hD2) npl3 z.symm, fun z => ne_of_none (p1 _ _ (s3' _ _ hD2)) ndl3 z.symm, .inr (.inr rfl)⟩
    have hD3 := s4' _ _ (p3 _ _ (p2 _ _ (p1 _ _ (s3' _ _ hD2))))
    have r4 : Row4 K D x y _ (.ref T4) := ⟨T4, e4, pl4, dl4, 30, _, _, [], rfl, by decide, p7 _ _ upd_same, x4.same c4, p7 _ _ (p6 _ _ (p5 _ _ upd_same)), p7 _ _ (p6 _ _ upd_same),
      fun z => ne_of_none hD3 npl4 z.symm, fun z => ne_of_none (p4 _ _ hD3) ndl4 z.symm, .inr (.inr rfl)⟩
    have fin : ∀ r ∈ rs2 ++ [.ref T3, .ref T4], Row4 K D x y _ r := fun r h => Row4.mut (ys := rs2 ++ [.ref T3, .ref T4]) (cc _ _ hD2) (by
      rcases List.mem_append.mp h with h | h
      · exact (hr2 r h).same cc
      · simp only [List.mem_cons, List.not_mem_nil, or_false] at h
        rcases h with rfl | rfl
        · exact r3
        · exact r4)
    have smF := Same.mut (o := .lst (rs2 ++ [.ref T3, .ref T4])) (sm2.trans cc) nD
    have hlF : (rs2 ++ [V.ref T3, V.ref T4]).length = 35 := by rw [List.length_append, hl2]; rfl
    have hDF : (upd (upd (upd (upd (upd G4 pl4 (.lst [])) dl4 (.lst [])) T4 (.tup [.ref e4, .ref pl4, .ref dl4, .int 2])) b5 (.lst [.ref T3, .ref T4])) D (.lst (rs2 ++ [.ref T3, .ref T4]))) D = some (.lst (rs2 ++ [V.ref T3, V.ref T4])) := upd_same
    generalize (upd (upd (upd (upd (upd G4 pl4 (.lst [])) dl4 (.lst [])) T4 (.tup [.ref e4, .ref pl4, .ref dl4, .int 2])) b5 (.lst [.ref T3, .ref T4])) D (.lst (rs2 ++ [.ref T3, .ref T4]))) = HF at *
    have hxF := hx4.same smF
    have hyF := hy4.same smF
    generalize rs2 ++ [V.ref T3, V.ref T4] = rsF at *
    walk_at "rd"
    refine ⟨⟨_, SqL.of hDF⟩, for_list (xs := rsF) (fun i σ' H' => (∃ a b c d e, σ' = [some (.ref p), some x, some y, some (.ref D), a, b, c, d, e]) ∧ L2.Same HF H') ⟨⟨_, _, _, _, _, rfl⟩, L2.Same.refl _⟩ (fun i σ' H' _ h => SqL.of (h.2 _ _ hDF)) (fun i r σ' H' hi ⟨⟨a, b, c, d, e, eq⟩, sm'⟩ => ?_) (fun σ' H' ⟨⟨a, b, c, d, e, eq⟩, sm'⟩ => ?_)⟩
    · subst eq
      obtain ⟨T5, e5, pl, dl, j, fs, args, ps, rfl, hj, ht, he, hpl, hdl, _, _, hps⟩ := (fin _ (List.mem_of_getElem? hi)).same sm'
      refine ⟨T5, _, rfl, SqT.of ht, rfl, ?_⟩
      walk_at "rd"
      obtain ⟨tz, rz⟩ := repr_ps T (hxF.same sm') (hyF.same sm') hps
      refine rz pl _ hpl ?_
      walk_at "rd"
      refine rz dl _ hdl ?_
      have hb := br_lt j hj
      walk_at "rd"
      refine ite2 (fun c => absurd c (by rw [decide_eq_true rfl]; decide)) (fun _ => ?_)
      walk_at "rd"
      intro H7 l7 s7 _ h7
      have he7 := he.same s7
      walk_at "rd"
      intro H8 l8 s8 _ h8
      have he8 := he7.same s8
      obtain ⟨v1, v2⟩ := eqv_brL _ hb
      refine ⟨_, _, dp_brL hb (s8 _ _ h7), dp_brL hb h8, v2, v2, ?_⟩
      rw [v1]
      walk_at "rd"
      intro H9 s9
      walk_at "rd"
      exact ⟨⟨_, _, _, _, _, rfl⟩, sm'.trans (s7.trans (s8.trans s9))⟩
    · subst eq
      walk_at "rd"
      refine ⟨.inl (SqL.of (sm' _ _ hDF)), ?_⟩
      rw [hlF]
      exact ⟨rfl, k _ ((s3.trans s4).trans (smF.trans sm'))⟩
end
end K10

set_option Elab.async false
set_option linter.all false
set_option maxRecDepth 100000
set_option maxHeartbeats 4000000
namespace K10
open PySem L2 Lay
local macro_rules | `(tactic| walk_at "ne") => `(tactic| first | assumption | (apply Ne.symm; assumption) | exact ne_of_none (by walk_at "look") (by assumption) | exact (ne_of_none (by walk_at "look") (by assumption)).symm)
local macro_rules | `(tactic| walk_at "look") => `(tactic| first | assumption | exact upd_same | (refine Eq.trans (upd_ne ?_) ?_; walk_at "ne"; walk_at "look"))
local macro_rules | `(tactic| walk_at "rds") => `(tactic| first | rfl | assumption | walk_at "look" | exact SqL.of (by walk_at "look") | exact SqT.of (by walk_at "look") | exact Or.inl (SqL.of (by walk_at "look")) | exact Or.inl (by assumption) | decide | omega | exact Nat.le_of_ble_eq_true rfl | exact Or.inr ⟨by decide, by decide⟩ | exact Or.inl ⟨by omega, by omega⟩ | exact ⟨by decide, by decide⟩)
local macro_rules | `(tactic| walk_at "rd1") => `(tactic| first | (apply Exists.intro) | (refine And.intro ?_ ?_; walk_at "rds") | (refine Or.inl ?_; apply Exists.intro; refine And.intro ?_ ?_; rfl))
local macro_rules | `(tactic| walk_at "rd") => `(tactic| repeat walk_at "rd1")
section
variable {P : Program} {w : World} {K : PySem.W.Frag} {mg : Str → Option Value} {base : Heap}
def spLaw (K : PySem.W.Frag) : Sp := fun vs H Q _ => ∃ (s : Addr) (ns : List Int), vs = [.ref s] ∧ SqL K H s (ns.map V.int) ∧ ns.length ≤ 63 ∧ ∀ H', L2.Same H H' → Q (.bl true) H'
theorem g_law (T : Txt K mg) {f : Addr} {fd : FuncData} (F : Fun K "law" "law" s_law f fd) : FnG P w K mg base CX0 5 f fd ["_law_script"] (spLaw K) := by
  have D_l_pot := d_pot (P := P) (w := w) (base := base) T
  have D_l_basics_right := d_basics (P := P) (w := w) (base := base) T
  have D_l_errors_right := d_errors (P := P) (w := w) (base := base) T
  refine okG F sc_law (fun vs H Q E h => ?_) (fun cdv A outer s H vs Q E hr hgd h => ?_)
  · obtain ⟨p, _, rfl, _⟩ := h; rfl
  · obtain ⟨p, ns, rfl, hp, hn, k⟩ := h
    refine ⟨_, (pss_cons (ps_for PassesOwn.never rfl (pi_range1 (by rfl) T.n_range (pa_cons (pe_callB (call_max2 rfl) (by rfl) T.n_max (by decide +kernel) (pa_cons pe_int (pa_cons (pe_callB (call_min2 rfl) (by rfl) T.n_min (by decide +kernel) (pa_cons pe_int (pa_cons (pe_callB call_len_seq (by rfl) T.n_len PySem.boot_len (pa_cons (pv 0) pa_nil)) pa_nil))) pa_nil))) pa_nil)) (pg_name (i := 1) sc_law.nd rfl (by first | exact Or.inl rfl | exact Or.inr rfl)) (pss_cons (ps_set (i := 2) sc_law.nd rfl (by first | exact Or.inl rfl | exact Or.inr rfl) (pe_own D_l_pot (hr.mono (by first | decide | omega)) hgd (pa_cons (pv 0) (pa_cons (pv 1) pa_nil))))
      (pss_one (ps_if (PW.pt (pw_or (pt_not (pt_val (pe_callB (cr_all rfl) (by rfl) T.n_all (by decide +kernel) (pa_cons (pe_lc (own := [("_law_turn", 3)]) rfl sc_law.nd (pi_range1 (by rfl) T.n_range (pa_cons pe_int pa_nil)) (blkOk_by (own := [("_law_turn", 3)]) (N := ["_law_script", "_law_k", "_law_pot_here", "_law_turn"]) (sc := defScope s_law) (by decide +kernel)) (fun _ _ _ _ _ => (pg_name (i := 3) sc_law.nd rfl (by first | exact Or.inl rfl | exact Or.inr rfl))) (fun _ _ _ _ _ => pts_nil) (fun _ _ _ _ _ => (pe_own D_l_basics_right (hr.mono (by first | decide | omega)) hgd (pa_cons (pv 2) pa_nil)))) pa_nil)))) (pw_or1 (pt_not (pt_val (pe_own D_l_errors_right (hr.mono (by first | decide | omega)) hgd (pa_cons (pv 2) pa_nil))))))) (pss_one (ps_ret pe_bl)) pss_nil))))
      (pss_one (ps_ret pe_bl))), ?_⟩
    walk_at "rd"
    refine Exists.choose_spec (for_range (lo := 0) (fun i σ' H' => (∃ a b c, σ' = [some (.ref p), a, b, c]) ∧ L2.Same H H') ⟨⟨_, _, _, rfl⟩, L2.Same.refl _⟩ (fun i σ' H1 hi ⟨⟨a, b, c, e⟩, s1⟩ => ?_) (fun σ' H1 ⟨⟨a, b, c, e⟩, s1⟩ => ?_))
    rotate_left 1
    · subst e
      have hi5 : i < 1000 := by
        refine Nat.lt_of_lt_of_le hi ?_
        split
        · split <;> omega
        · omega
      refine ⟨_, rfl, _, rfl, p, ns, i, by rw [Int.zero_add], s1.seq hp, hn, hi5, fun t H2 nt s2 ht => ?_⟩
      walk_at "rd"
      intro D nD
      refine lc_pure (n := 4) walk_range nD (by omega) (fun _ _ => trivial) (fun i y => y = .bl true) (fun i x H4 H5 Kn Z hi sm y q => ?_) (fun H4 xs sm hD hl hr => ?_)
      · obtain ⟨rfl, rfl⟩ := y
        refine ⟨rfl, ?_⟩
        show (if true = true then tG spTrue (tCons (tVar 2) tNil) _ H5 Kn else Z H5)
        rw [if_pos rfl]
        refine ⟨_, rfl, t, rfl, sm _ _ ht, fun H6 s6 => q _ _ s6 rfl⟩
      · rw [eq_map hl hr] at hD
        refine ⟨D, (List.range 4).map fun _ => true, rfl, SqL.of hD, ?_⟩
        walk_at "rd"
        refine ⟨sm _ _ ht, fun H6 s6 => ?_⟩
        walk_at "rd"
        exact ⟨⟨_, _, _, rfl⟩, s1.trans (s2.trans (sm.trans s6))⟩
    · subst e
      walk_at "rd"
      exact k _ s1
end
end K10

set_option Elab.async false
set_option linter.all false
set_option maxRecDepth 100000
set_option maxHeartbeats 4000000
namespace Hd
open PySem L2 Lay He PySem.Spec PyProof.Rows
/-- an own error's class, as a test -/
def clB (K : PySem.W.Frag) (C : Addr) (newId : String) (bmB : List Value) : Bool :=
  PySem.W.excInitIn K C bmB newId && (PySem.W.excOver K C bmB && (PySem.W.hasDictIn K C && (eqO (PySem.W.findIn K (.ref C) "__setattr__") (some (some (.builtin "object.__setattr__"))) &&
  (eqO (PySem.W.findIn K (.ref C) "__getattribute__") (some (some (.builtin "BaseException.__getattribute__"))) && (eqO (PySem.W.findIn K (.ref C) "__getattr__") (some none) &&
  (decide (PySem.W.subIn K (.ref C) (.type "BaseException") = some true) && (decide (PySem.W.typeIn K (.ref C) = some (.type "type")) && (PySem.W.keepIn K (.ref C) &&
  (eqO (PySem.W.findIn K (.ref C) "__class__") (some (some (.builtin "object.__class__"))) && decide (PySem.W.mroIn K C (.type "object") = some true))))))))))
theorem cl_ok {K : PySem.W.Frag} {h : Heap} {C : Addr} {newId : String} {bmB : List Value} (X : K.In h) (c : clB K C newId bmB = true) : Exv.Cl K C newId bmB := by
  obtain ⟨c1, c⟩ := ba c
  obtain ⟨c2, c⟩ := ba c
  obtain ⟨c3, c⟩ := ba c
  obtain ⟨c4, c⟩ := ba c
  obtain ⟨c5, c⟩ := ba c
  obtain ⟨c6, c⟩ := ba c
  obtain ⟨c7, c⟩ := ba c
  obtain ⟨c8, c⟩ := ba c
  obtain ⟨c9, c⟩ := ba c
  obtain ⟨c10, c11⟩ := ba c
  refine ⟨?_, eqO_ok c4, eqO_ok c5, eqO_ok c6, of_decide_eq_true c7, of_decide_eq_true c8, c9, c3, eqO_ok c10, of_decide_eq_true c11⟩
  cases q : K.lookup C with
  | none => unfold PySem.W.excInitIn at c1; rw [q] at c1; cases c1
  | some o =>
    obtain ⟨nm, N, qn, bs, bm, hdct, sn, sub, ab, col, dd, k0, k1, k2, k3, k5, hg, _⟩ := PySem.W.excInit_of X c1
    have e := X _ _ q
    rw [hg] at e
    obtain rfl := (Option.some.inj e)
    unfold PySem.W.hasDictIn PySem.W.clsIn at c3
    unfold PySem.W.excOver PySem.W.clsIn at c2
    rw [q] at c2 c3
    have c3' : hdct = true := c3
    subst c3'
    have c2' : (C == C && PySem.W.excTail bmB bm) = true := c2
    exact ⟨nm, qn, N, bs, bm, sn, sub, ab, col, dd, k0, k1, k2, k3, k5, rfl, (ba c2').2⟩
/-! the Hook: own tests, and the defs -/
def obsF (fb : PySem.W.Frag → Bool) (fn : List DefD) (K : PySem.W.Frag) : AlD := (fb K && (obsD [] fn K).1, (obsD [] fn K).2)
def obsFG (n : Nat) (fb : PySem.W.Frag → Bool) (fn : List DefD) (g : Addr → Option Obj) : AlD := obsF fb fn (frG g (asD g n))
def hookF (n : Nat) (fb : PySem.W.Frag → Bool) (fn : List DefD) : PySem.W.Hook where
  α := AlD
  obs := fun s => obsFG n fb fn s.heap.get?
  val := fun _ => valD fn
  says := fun _ h => ∃ K : PySem.W.Frag, K.In h ∧ obsF fb fn K = valD fn
  of := fun _ _ e => ⟨_, frG_in, e⟩
  keeps := fun _ _ _ ⟨K, hK, c⟩ k => ⟨K, PySem.W.Frag.In.keeps hK k, c⟩
theorem obsFG_eq {n : Nat} {fb : PySem.W.Frag → Bool} {fn : List DefD} {g : Addr → Option Obj} {s : Shared} (h : ∀ a, g a = s.heap.get? a) : obsFG n fb fn g = (hookF n fb fn).obs s := by
  have e : g = s.heap.get? := funext h
  rw [e] <;> rfl
theorem says_fb {fb : PySem.W.Frag → Bool} {fn : List DefD} {K : PySem.W.Frag} (c : obsF fb fn K = valD fn) : fb K = true :=
  (ba (show (fb K && (obsD [] fn K).1) = true from congrArg (fun z : AlD => z.1) c)).1
theorem says_fn {fb : PySem.W.Frag → Bool} {fn : List DefD} {K : PySem.W.Frag} (c : obsF fb fn K = valD fn) : SaysD [] fn K :=
  Prod.ext (ba (show (fb K && (obsD [] fn K).1) = true from congrArg (fun z : AlD => z.1) c)).2 (show (obsF fb fn K).2 = (valD fn).2 from congrArg (fun z : AlD => z.2) c)
/-- a def of the text -/
theorem fun_of {K : PySem.W.Frag} {x qual : Str} {st : Stmt} {f : Addr} {fd : FuncData} (F : FunD K x qual (defArgs st) (defBody st) (defScope st) [] [] f fd) : Fun K x qual st f fd := by
  obtain ⟨⟨oc, od, dV, kV, doc, pm, an, cdv, ct, osl, rfl, lk, hcd, hD, hK⟩, kp⟩ := F
  rcases hD with ⟨_, rfl⟩ | ⟨e, _⟩
  · exact ⟨⟨oc, od, kV, doc, pm, an, cdv, ct, osl, rfl, lk, hcd⟩, kp⟩
  · exact absurd rfl e
theorem src_of {K : PySem.W.Frag} {mg : Str → Option Value} {x : Str} {st : Stmt} {ps : List Str} {f : Addr} {fd : FuncData} (F : Fun K x x st f fd) (g : mg x = some (.ref f))
    (h : ∀ (kV doc pm : Value) (an : Option Addr) (cdv ct : Value) (us : List Value), us.length = ps.length → bindArgs (PySem.W.fnOf x x (defArgs st) (defBody st) (defScope st) .none kV doc pm an cdv ct) ⟨us, []⟩ = pure (ps.zip us))
    (h1 : ∀ (kV doc pm : Value) (an : Option Addr) (cdv ct : Value) (p : Str) (v : Value), ps = [p] → bindArgs (PySem.W.fnOf x x (defArgs st) (defBody st) (defScope st) .none kV doc pm an cdv ct) ⟨[], [(p, v)]⟩ = pure [(p, v)]) : Src K mg x st ps := by
  refine ⟨f, fd, F, g, F.binds h, fun p v e => ?_⟩
  obtain ⟨oc, od, kV, doc, pm, an, cdv, ct, osl, rfl, lk, hcd⟩ := F.ex
  exact h1 kV doc pm an cdv ct p v e
/-- a law's end over such a head -/
theorem walk_GE {l : PySem.W.OpenLaw} {n k : Nat} {q : Program} {loose : List Str} {XP : (Str → Option Value) → Heap → Prop} {YP : World → Heap → Prop} {d : DefRec} {x : Str}
    (hn : l.most = some n) (hn2 : n ≤ sizeLine) (hdf : d.params.defaults = []) (hr : Room k callerA)
    (F : ∀ (w : World) (mg : Str → Option Value) (fa : Addr) (h : Heap), YP w h → h.Ns mainGlobals mg → mg d.name = some (.ref fa) →
      ∃ (K : PySem.W.Frag) (fd : FuncData) (sp : Sp), K.In h ∧ (∀ (s : Shared) (u : Value), BindsTo s fd ⟨[u], []⟩ [(x, u)]) ∧
        (∀ (H : Hp) (a : Addr) (ns : List Int), ns.length ≤ n → Only H → SqL K H a (ns.map V.int) → sp [.ref a] H (fun v _ => v = .bl true) fun _ _ _ => False) ∧
        ∀ base : Heap, K.In base → base.Ns mainGlobals mg → FnG l.prog w K mg base CX0 k fa fd [x] sp) :
    PySem.W.WalkO q loose XP YP l.row.toRowW d [] (fun f vs => PySem.call f vs) := by
  refine Att.attach_call hn hdf fun w s0 s1 mg mb fa o pm cd doc a vs ns G Y ho hd hcd hmg hobj hints hlen hg => ?_
  obtain ⟨K, fd, sp, KX, hb, hsp, hF⟩ := F w mg fa _ Y G.T.g hmg
  exact law_callG KX G.T.g G.T.b G.T.builtins G.T.nolimit hg hobj hints (Nat.le_trans hlen hn2) hr hF hb fun H hO hS => hsp H a ns hlen hO hS
end Hd

set_option Elab.async false
set_option linter.all false
set_option maxRecDepth 100000
set_option maxHeartbeats 0
namespace K10
open PySem L2 Lay He Hd
def initOf (i : Nat) : Stmt := match top i with
  | .ClassDef _ _ _ b _ _ _ _ _ _ _ => b.getD 0 (.Pass ⟨0, 0, 0, 0⟩)
  | _ => .Pass ⟨0, 0, 0, 0⟩
abbrev i_InvalidEntries : Stmt := initOf 7
abbrev i_InvalidNames : Stmt := initOf 8
abbrev i_InvalidKinds : Stmt := initOf 9
abbrev i_InvalidRenaming : Stmt := initOf 10
abbrev i_InvalidSize : Stmt := initOf 11
abbrev i_InvalidLines : Stmt := initOf 12
abbrev i_InvalidSet : Stmt := initOf 13
abbrev i_InvalidChoice : Stmt := initOf 14
abbrev i_InvalidMarks : Stmt := initOf 15
abbrev i_InvalidHeight : Stmt := initOf 16
abbrev i_InvalidPeriod : Stmt := initOf 17
abbrev i_InvalidPartners : Stmt := initOf 18
abbrev i_InvalidColumn : Stmt := initOf 19
abbrev i_InvalidState : Stmt := initOf 20
abbrev i_InvalidLength : Stmt := initOf 21
abbrev i_InvalidText : Stmt := initOf 22
abbrev i_InvalidClaim : Stmt := initOf 23
abbrev i_InvalidWay : Stmt := initOf 24
abbrev i_InvalidCommand : Stmt := initOf 25
abbrev i_UnknownName : Stmt := initOf 27
abbrev i_UnknownKind : Stmt := initOf 28
abbrev i_UnknownCell : Stmt := initOf 29
abbrev i_UnknownLine : Stmt := initOf 30
abbrev i_KindTaken : Stmt := initOf 32
abbrev i_SameKinds : Stmt := initOf 33
abbrev i_NotFlat : Stmt := initOf 34
abbrev i_OtherPiece : Stmt := initOf 35
abbrev i_Marked : Stmt := initOf 36
abbrev i_WrongTurn : Stmt := initOf 37
abbrev i_NoAnswer : Stmt := initOf 38
abbrev i_NothingToUndo : Stmt := initOf 39
abbrev i_CommandFailed : Stmt := initOf 40
abbrev i_TooMany : Stmt := initOf 42
def fnL0 : List He.DefD := [  ⟨("is_integer", none), "is_integer", "is_integer", defArgs s_is_integer, defBody s_is_integer, defScope s_is_integer, [], []⟩,
  ⟨("is_count", none), "is_count", "is_count", defArgs s_is_count, defBody s_is_count, defScope s_is_count, [], []⟩,
  ⟨("is_name", none), "is_name", "is_name", defArgs s_is_name, defBody s_is_name, defScope s_is_name, [], []⟩,
  ⟨("_law_pot", none), "_law_pot", "_law_pot", defArgs s_l_pot, defBody s_l_pot, defScope s_l_pot, [], []⟩,
  ⟨("_law_draw", none), "_law_draw", "_law_draw", defArgs s_l_draw, defBody s_l_draw, defScope s_l_draw, [], []⟩,
  ⟨("_law_among", none), "_law_among", "_law_among", defArgs s_l_among, defBody s_l_among, defScope s_l_among, [], []⟩,
  ⟨("_law_thing", none), "_law_thing", "_law_thing", defArgs s_l_thing, defBody s_l_thing, defScope s_l_thing, [], []⟩,
  ⟨("_law_basics_right", none), "_law_basics_right", "_law_basics_right", defArgs s_l_basics_right, defBody s_l_basics_right, defScope s_l_basics_right, [], []⟩,
  ⟨("_law_singles", none), "_law_singles", "_law_singles", defArgs s_l_singles, defBody s_l_singles, defScope s_l_singles, [], []⟩,
  ⟨("_law_branches", none), "_law_branches", "_law_branches", defArgs s_l_branches, defBody s_l_branches, defScope s_l_branches, [], []⟩,
  ⟨("_law_due", none), "_law_due", "_law_due", defArgs s_l_due, defBody s_l_due, defScope s_l_due, [], []⟩,
  ⟨("_law_many_own", none), "_law_many_own", "_law_many_own", defArgs s_l_many_own, defBody s_l_many_own, defScope s_l_many_own, [], []⟩,
  ⟨("_law_errors_right", none), "_law_errors_right", "_law_errors_right", defArgs s_l_errors_right, defBody s_l_errors_right, defScope s_l_errors_right, [], []⟩,
  ⟨("law", none), "law", "law", defArgs s_law, defBody s_law, defScope s_law, [], []⟩,
  ⟨("InvalidEntries", some "__init__"), "__init__", "InvalidEntries.__init__", defArgs i_InvalidEntries, defBody i_InvalidEntries, defScope i_InvalidEntries, [], []⟩,
  ⟨("InvalidNames", some "__init__"), "__init__", "InvalidNames.__init__", defArgs i_InvalidNames, defBody i_InvalidNames, defScope i_InvalidNames, [], []⟩,
  ⟨("InvalidKinds", some "__init__"), "__init__", "InvalidKinds.__init__", defArgs i_InvalidKinds, defBody i_InvalidKinds, defScope i_InvalidKinds, [], []⟩,
  ⟨("InvalidRenaming", some "__init__"), "__init__", "InvalidRenaming.__init__", defArgs i_InvalidRenaming, defBody i_InvalidRenaming, defScope i_InvalidRenaming, [], []⟩,
  ⟨("InvalidSize", some "__init__"), "__init__", "InvalidSize.__init__", defArgs i_InvalidSize, defBody i_InvalidSize, defScope i_InvalidSize, [], []⟩,
  ⟨("InvalidLines", some "__init__"), "__init__", "InvalidLines.__init__", defArgs i_InvalidLines, defBody i_InvalidLines, defScope i_InvalidLines, [], []⟩,
  ⟨("InvalidSet", some "__init__"), "__init__", "InvalidSet.__init__", defArgs i_InvalidSet, defBody i_InvalidSet, defScope i_InvalidSet, [], []⟩,
  ⟨("InvalidChoice", some "__init__"), "__init__", "InvalidChoice.__init__", defArgs i_InvalidChoice, defBody i_InvalidChoice, defScope i_InvalidChoice, [], []⟩,
  ⟨("InvalidMarks", some "__init__"), "__init__", "InvalidMarks.__init__", defArgs i_InvalidMarks, defBody i_InvalidMarks, defScope i_InvalidMarks, [], []⟩,
  ⟨("InvalidHeight", some "__init__"), "__init__", "InvalidHeight.__init__", defArgs i_InvalidHeight, defBody i_InvalidHeight, defScope i_InvalidHeight, [], []⟩,
  ⟨("InvalidPeriod", some "__init__"), "__init__", "InvalidPeriod.__init__", defArgs i_InvalidPeriod, defBody i_InvalidPeriod, defScope i_InvalidPeriod, [], []⟩]
def fnL1 : List He.DefD := [  ⟨("InvalidPartners", some "__init__"), "__init__", "InvalidPartners.__init__", defArgs i_InvalidPartners, defBody i_InvalidPartners, defScope i_InvalidPartners, [], []⟩,
  ⟨("InvalidColumn", some "__init__"), "__init__", "InvalidColumn.__init__", defArgs i_InvalidColumn, defBody i_InvalidColumn, defScope i_InvalidColumn, [], []⟩,
  ⟨("InvalidState", some "__init__"), "__init__", "InvalidState.__init__", defArgs i_InvalidState, defBody i_InvalidState, defScope i_InvalidState, [], []⟩,
  ⟨("InvalidLength", some "__init__"), "__init__", "InvalidLength.__init__", defArgs i_InvalidLength, defBody i_InvalidLength, defScope i_InvalidLength, [], []⟩,
  ⟨("InvalidText", some "__init__"), "__init__", "InvalidText.__init__", defArgs i_InvalidText, defBody i_InvalidText, defScope i_InvalidText, [], []⟩,
  ⟨("InvalidClaim", some "__init__"), "__init__", "InvalidClaim.__init__", defArgs i_InvalidClaim, defBody i_InvalidClaim, defScope i_InvalidClaim, [], []⟩,
  ⟨("InvalidWay", some "__init__"), "__init__", "InvalidWay.__init__", defArgs i_InvalidWay, defBody i_InvalidWay, defScope i_InvalidWay, [], []⟩,
  ⟨("InvalidCommand", some "__init__"), "__init__", "InvalidCommand.__init__", defArgs i_InvalidCommand, defBody i_InvalidCommand, defScope i_InvalidCommand, [], []⟩,
  ⟨("UnknownName", some "__init__"), "__init__", "UnknownName.__init__", defArgs i_UnknownName, defBody i_UnknownName, defScope i_UnknownName, [], []⟩,
  ⟨("UnknownKind", some "__init__"), "__init__", "UnknownKind.__init__", defArgs i_UnknownKind, defBody i_UnknownKind, defScope i_UnknownKind, [], []⟩,
  ⟨("UnknownCell", some "__init__"), "__init__", "UnknownCell.__init__", defArgs i_UnknownCell, defBody i_UnknownCell, defScope i_UnknownCell, [], []⟩,
  ⟨("UnknownLine", some "__init__"), "__init__", "UnknownLine.__init__", defArgs i_UnknownLine, defBody i_UnknownLine, defScope i_UnknownLine, [], []⟩,
  ⟨("KindTaken", some "__init__"), "__init__", "KindTaken.__init__", defArgs i_KindTaken, defBody i_KindTaken, defScope i_KindTaken, [], []⟩,
  ⟨("SameKinds", some "__init__"), "__init__", "SameKinds.__init__", defArgs i_SameKinds, defBody i_SameKinds, defScope i_SameKinds, [], []⟩,
  ⟨("NotFlat", some "__init__"), "__init__", "NotFlat.__init__", defArgs i_NotFlat, defBody i_NotFlat, defScope i_NotFlat, [], []⟩,
  ⟨("OtherPiece", some "__init__"), "__init__", "OtherPiece.__init__", defArgs i_OtherPiece, defBody i_OtherPiece, defScope i_OtherPiece, [], []⟩,
  ⟨("Marked", some "__init__"), "__init__", "Marked.__init__", defArgs i_Marked, defBody i_Marked, defScope i_Marked, [], []⟩,
  ⟨("WrongTurn", some "__init__"), "__init__", "WrongTurn.__init__", defArgs i_WrongTurn, defBody i_WrongTurn, defScope i_WrongTurn, [], []⟩,
  ⟨("NoAnswer", some "__init__"), "__init__", "NoAnswer.__init__", defArgs i_NoAnswer, defBody i_NoAnswer, defScope i_NoAnswer, [], []⟩,
  ⟨("NothingToUndo", some "__init__"), "__init__", "NothingToUndo.__init__", defArgs i_NothingToUndo, defBody i_NothingToUndo, defScope i_NothingToUndo, [], []⟩,
  ⟨("CommandFailed", some "__init__"), "__init__", "CommandFailed.__init__", defArgs i_CommandFailed, defBody i_CommandFailed, defScope i_CommandFailed, [], []⟩,
  ⟨("TooMany", some "__init__"), "__init__", "TooMany.__init__", defArgs i_TooMany, defBody i_TooMany, defScope i_TooMany, [], []⟩]
def fnL : List He.DefD := fnL0 ++ (fnL1)
def faL0 : List He.Fa := [.free "len", .free "int", .free "abs", .free "max", .free "divmod", .free "isinstance", .free "bool", .free "str", .free "repr", .free "range", .free "all", .free "sum", .free "min", .free "ValueError", .free "LookupError", .free "RuntimeError", .free "ArithmeticError", .int "MOST_LETTERS" 8, .glo "is_integer", .glo "is_count", .glo "is_name", .glo "_law_pot", .glo "_law_draw", .glo "_law_among", .glo "_law_thing"]
def faL1 : List He.Fa := [.glo "_law_basics_right", .glo "_law_singles", .glo "_law_branches", .glo "_law_due", .glo "_law_many_own", .glo "_law_errors_right", .glo "law", .glo "LineError", .glo "MissingError", .glo "StateError", .glo "LimitError", .glo "InvalidEntries", .glo "InvalidNames", .glo "InvalidKinds", .glo "InvalidRenaming", .glo "InvalidSize", .glo "InvalidLines", .glo "InvalidSet", .glo "InvalidChoice", .glo "InvalidMarks", .glo "InvalidHeight", .glo "InvalidPeriod", .glo "InvalidPartners", .glo "InvalidColumn", .glo "InvalidState"]
def faL2 : List He.Fa := [.glo "InvalidLength", .glo "InvalidText", .glo "InvalidClaim", .glo "InvalidWay", .glo "InvalidCommand", .glo "UnknownName", .glo "UnknownKind", .glo "UnknownCell", .glo "UnknownLine", .glo "KindTaken", .glo "SameKinds", .glo "NotFlat", .glo "OtherPiece", .glo "Marked", .glo "WrongTurn", .glo "NoAnswer", .glo "NothingToUndo", .glo "CommandFailed", .glo "TooMany", .noat "InvalidEntries" "position", .noat "InvalidNames" "position", .noat "InvalidKinds" "value", .noat "InvalidRenaming" "value", .noat "InvalidSize" "value", .noat "InvalidLines" "position"]
def faL3 : List He.Fa := [.noat "InvalidSet" "position", .noat "InvalidChoice" "value", .noat "InvalidMarks" "position", .noat "InvalidHeight" "value", .noat "InvalidPeriod" "value", .noat "InvalidPartners" "value", .noat "InvalidColumn" "value", .noat "InvalidState" "value", .noat "InvalidLength" "value", .noat "InvalidText" "line", .noat "InvalidClaim" "value", .noat "InvalidWay" "value", .noat "InvalidCommand" "value", .noat "UnknownName" "value", .noat "UnknownKind" "value", .noat "UnknownCell" "value", .noat "UnknownLine" "value", .noat "KindTaken" "value", .noat "SameKinds" "one", .noat "SameKinds" "other", .noat "NotFlat" "value", .noat "OtherPiece" "one", .noat "OtherPiece" "other", .noat "Marked" "value", .noat "WrongTurn" "value"]
def faL4 : List He.Fa := [.noat "CommandFailed" "position", .noat "TooMany" "what", .noat "TooMany" "limit"]
def faL : List He.Fa := faL0 ++ (faL1 ++ (faL2 ++ (faL3 ++ (faL4))))
def newL : List (Str × String × List Value) := [
  (("InvalidEntries" : Str), "ValueError.__new__", [.type "ValueError", .type "Exception", .type "BaseException", .type "object"]),
  (("InvalidNames" : Str), "ValueError.__new__", [.type "ValueError", .type "Exception", .type "BaseException", .type "object"]),
  (("InvalidKinds" : Str), "ValueError.__new__", [.type "ValueError", .type "Exception", .type "BaseException", .type "object"]),
  (("InvalidRenaming" : Str), "ValueError.__new__", [.type "ValueError", .type "Exception", .type "BaseException", .type "object"]),
  (("InvalidSize" : Str), "ValueError.__new__", [.type "ValueError", .type "Exception", .type "BaseException", .type "object"]),
  (("InvalidLines" : Str), "ValueError.__new__", [.type "ValueError", .type "Exception", .type "BaseException", .type "object"]),
  (("InvalidSet" : Str), "ValueError.__new__", [.type "ValueError", .type "Exception", .type "BaseException", .type "object"]),
  (("InvalidChoice" : Str), "ValueError.__new__", [.type "ValueError", .type "Exception", .type "BaseException", .type "object"]),
  (("InvalidMarks" : Str), "ValueError.__new__", [.type "ValueError", .type "Exception", .type "BaseException", .type "object"]),
  (("InvalidHeight" : Str), "ValueError.__new__", [.type "ValueError", .type "Exception", .type "BaseException", .type "object"]),
  (("InvalidPeriod" : Str), "ValueError.__new__", [.type "ValueError", .type "Exception", .type "BaseException", .type "object"]),
  (("InvalidPartners" : Str), "ValueError.__new__", [.type "ValueError", .type "Exception", .type "BaseException", .type "object"]),
  (("InvalidColumn" : Str), "ValueError.__new__", [.type "ValueError", .type "Exception", .type "BaseException", .type "object"]),
  (("InvalidState" : Str), "ValueError.__new__", [.type "ValueError", .type "Exception", .type "BaseException", .type "object"]),
  (("InvalidLength" : Str), "ValueError.__new__", [.type "ValueError", .type "Exception", .type "BaseException", .type "object"]),
  (("InvalidText" : Str), "ValueError.__new__", [.type "ValueError", .type "Exception", .type "BaseException", .type "object"]),
  (("InvalidClaim" : Str), "ValueError.__new__", [.type "ValueError", .type "Exception", .type "BaseException", .type "object"]),
  (("InvalidWay" : Str), "ValueError.__new__", [.type "ValueError", .type "Exception", .type "BaseException", .type "object"]),
  (("InvalidCommand" : Str), "ValueError.__new__", [.type "ValueError", .type "Exception", .type "BaseException", .type "object"]),
  (("UnknownName" : Str), "LookupError.__new__", [.type "LookupError", .type "Exception", .type "BaseException", .type "object"]),
  (("UnknownKind" : Str), "LookupError.__new__", [.type "LookupError", .type "Exception", .type "BaseException", .type "object"]),
  (("UnknownCell" : Str), "LookupError.__new__", [.type "LookupError", .type "Exception", .type "BaseException", .type "object"]),
  (("UnknownLine" : Str), "LookupError.__new__", [.type "LookupError", .type "Exception", .type "BaseException", .type "object"]),
  (("KindTaken" : Str), "RuntimeError.__new__", [.type "RuntimeError", .type "Exception", .type "BaseException", .type "object"]),
  (("SameKinds" : Str), "RuntimeError.__new__", [.type "RuntimeError", .type "Exception", .type "BaseException", .type "object"]),
  (("NotFlat" : Str), "RuntimeError.__new__", [.type "RuntimeError", .type "Exception", .type "BaseException", .type "object"]),
  (("OtherPiece" : Str), "RuntimeError.__new__", [.type "RuntimeError", .type "Exception", .type "BaseException", .type "object"]),
  (("Marked" : Str), "RuntimeError.__new__", [.type "RuntimeError", .type "Exception", .type "BaseException", .type "object"]),
  (("WrongTurn" : Str), "RuntimeError.__new__", [.type "RuntimeError", .type "Exception", .type "BaseException", .type "object"]),
  (("NoAnswer" : Str), "RuntimeError.__new__", [.type "RuntimeError", .type "Exception", .type "BaseException", .type "object"]),
  (("NothingToUndo" : Str), "RuntimeError.__new__", [.type "RuntimeError", .type "Exception", .type "BaseException", .type "object"]),
  (("CommandFailed" : Str), "RuntimeError.__new__", [.type "RuntimeError", .type "Exception", .type "BaseException", .type "object"]),
  (("TooMany" : Str), "ArithmeticError.__new__", [.type "ArithmeticError", .type "Exception", .type "BaseException", .type "object"])]
def inB (K : PySem.W.Frag) (x : Str) : Bool := eqO (PySem.W.findIn K (.ref (ga K x)) "__init__") (some (some (.ref (ma K (ga K x) "__init__")))) && decide (PySem.W.typeIn K (.ref (ma K (ga K x) "__init__")) = some (.type "function"))
def kB (K : PySem.W.Frag) (a b : Value) (z : Bool) : Bool := decide (PySem.W.kitOne K a b = some z)
def crB (K : PySem.W.Frag) (C : Addr) (nm : Str) : Bool := (match PySem.W.clsIn K C with
  | some cd => decide (Str.ofString ((cd.name.toString.cutAt '.').getLastD "") = nm)
  | none => false) && eqO (PySem.W.findIn K (.ref C) "__repr__") (some (some (.builtin "BaseException.__repr__")))
def fbL : List (PySem.W.Frag → Bool) := [
  fun K => faL.all fun f => f.ok K,
  fun K => newL.all fun z => clB K (ga K z.1) z.2.1 z.2.2,
  fun K => newL.all fun z => inB K z.1,
  fun K => decide (PySem.W.specialIn K (.builtin "object.__class__") "__get__" = some (some (.builtin "getset_descriptor.__get__"))) && decide (PySem.W.takesIn K (.builtin "object.__class__") = some true),
  fun K => (List.range 33).all fun i => (List.range 33).all fun j => kB K (.ref (ga K (leafN i))) (.ref (ga K (leafN j))) (i == j),
  fun K => (List.range 33).all fun i => (List.range 4).all fun j => kB K (.ref (ga K (leafN i))) (.ref (ga K (brN j))) (brI i == j),
  fun K => (List.range 33).all fun i => (List.range 4).all fun j => kB K (.ref (ga K (leafN i))) (.type (bT j)) (brI i == j),
  fun K => kB K (Value.ref (ga K "TooMany")) (Value.type "int") false && (kB K (Value.ref (ga K "TooMany")) (Value.type "bool") false && kB K (Value.ref (ga K "TooMany")) (Value.type "str") false),
  fun K => crB K (ga K "TooMany") "TooMany"]
def fb (K : PySem.W.Frag) : Bool := fbL.all fun f => f K
abbrev R : PySem.W.OpenRow := PySem.W.OpenLaw.row PySem.Challenge.rw_twoeach_k10_numbers_names_and_errors
abbrev hk : PySem.W.Hook := hookF 4 fb fnL
def ob (s : PySem.W.SharedT) : He.AlD := obsFG 4 fb fnL (HandSHeadRun.getT s)
theorem ob_eq (s : PySem.W.SharedT) : ob s = hk.obs s.abs := obsFG_eq (HandSHeadRun.getT_eq s)
def looseL0 : List PySem.Str := [("MOST_LETTERS" : PySem.Str), ("is_integer" : PySem.Str), ("is_count" : PySem.Str), ("is_name" : PySem.Str), ("LineError" : PySem.Str), ("InvalidEntries" : PySem.Str), ("InvalidNames" : PySem.Str), ("InvalidKinds" : PySem.Str), ("InvalidRenaming" : PySem.Str), ("InvalidSize" : PySem.Str), ("InvalidLines" : PySem.Str), ("InvalidSet" : PySem.Str), ("InvalidChoice" : PySem.Str), ("InvalidMarks" : PySem.Str), ("InvalidHeight" : PySem.Str), ("InvalidPeriod" : PySem.Str), ("InvalidPartners" : PySem.Str), ("InvalidColumn" : PySem.Str), ("InvalidState" : PySem.Str), ("InvalidLength" : PySem.Str), ("InvalidText" : PySem.Str), ("InvalidClaim" : PySem.Str), ("InvalidWay" : PySem.Str), ("InvalidCommand" : PySem.Str), ("MissingError" : PySem.Str)]
def looseL1 : List PySem.Str := [("UnknownName" : PySem.Str), ("UnknownKind" : PySem.Str), ("UnknownCell" : PySem.Str), ("UnknownLine" : PySem.Str), ("StateError" : PySem.Str), ("KindTaken" : PySem.Str), ("SameKinds" : PySem.Str), ("NotFlat" : PySem.Str), ("OtherPiece" : PySem.Str), ("Marked" : PySem.Str), ("WrongTurn" : PySem.Str), ("NoAnswer" : PySem.Str), ("NothingToUndo" : PySem.Str), ("CommandFailed" : PySem.Str), ("LimitError" : PySem.Str), ("TooMany" : PySem.Str), ("_law_pot" : PySem.Str), ("_law_draw" : PySem.Str), ("_law_among" : PySem.Str), ("_law_thing" : PySem.Str), ("_law_basics_right" : PySem.Str), ("_law_singles" : PySem.Str), ("_law_branches" : PySem.Str), ("_law_due" : PySem.Str), ("_law_many_own" : PySem.Str)]
def looseL2 : List PySem.Str := [("_law_errors_right" : PySem.Str)]
def looseL : List PySem.Str := looseL0 ++ (looseL1 ++ (looseL2))
theorem run (w : World) : HandSHeadRun.RunEq R (PySem.W.view R.prog [54]) hk ob 9600 looseL w := by
  intro os
  kernel_rfl
end K10

set_option Elab.async false
set_option linter.all false
set_option maxRecDepth 100000
set_option maxHeartbeats 4000000
namespace K10
open PySem L2 Lay He Hd
section
variable {K : PySem.W.Frag} {h : Heap} {mg : Str → Option Value}
theorem fb_at (c : fb K = true) (i : Nat) {f : PySem.W.Frag → Bool} (e : fbL[i]? = some f := by rfl) : f K = true := List.all_eq_true.mp (show (fbL.all fun f => f K) = true from c) f (List.mem_of_getElem? e)
theorem fa_at (c : fb K = true) (i : Nat) {f : He.Fa} (e : faL[i]? = some f := by rfl) : f.ok K = true := List.all_eq_true.mp (fb_at c 0) f (List.mem_of_getElem? e)
theorem clx_at (X : K.In h) (c : fb K = true) (i : Nat) {z : Str × String × List Value} (e : newL[i]? = some z := by rfl) : Exv.Cl K (ga K z.1) z.2.1 z.2.2 := cl_ok X (List.all_eq_true.mp (fb_at c 1) z (List.mem_of_getElem? e))
theorem in_at (c : fb K = true) (i : Nat) {z : Str × String × List Value} (e : newL[i]? = some z := by rfl) : inB K z.1 = true := List.all_eq_true.mp (fb_at c 2) z (List.mem_of_getElem? e)
theorem ec_of {P : Program} {w : World} {base : Heap} {x qual : Str} {newId : String} {bmB : List Value} {st : Stmt} {fd : FuncData} {ps : List Str} {n : Nat} {mk : List V → List (Str × V)}
    (g : mg x = some (.ref (ga K x))) (cl : Exv.Cl K (ga K x) newId bmB) (hi : inB K x = true) (F : Fun K "__init__" qual st (ma K (ga K x) "__init__") fd)
    (hF : FnOk P w K mg base CX0 1 (ma K (ga K x) "__init__") fd ps (Exv.spI (ga K x) n mk))
    (h1 : ∀ (kV doc pm : Value) (an : Option Addr) (cdv ct : Value) (us : List Value), us.length = ps.length → bindArgs (PySem.W.fnOf "__init__" qual (defArgs st) (defBody st) (defScope st) .none kV doc pm an cdv ct) ⟨us, []⟩ = pure (ps.zip us))
    (h2 : ∀ (kV doc pm : Value) (an : Option Addr) (cdv ct : Value) (s0 : Value) (ws : List Value), ws.length = n → ∀ ks : List Str, ks ++ [("self" : Str)] = ps.reverse →
      bindArgs (PySem.W.fnOf "__init__" qual (defArgs st) (defBody st) (defScope st) .none kV doc pm an cdv ct) ⟨[s0], ks.zip ws⟩ = pure (ps.zip (s0 :: ws.reverse))) : Exv.Ec P w K mg base x (ga K x) newId bmB ps n mk := by
  obtain ⟨i1, i2⟩ := ba hi
  refine ⟨g, cl, _, fd, eqO_ok i1, of_decide_eq_true i2, hF, ?_, ?_⟩
  · obtain ⟨oc, od, kV, doc, pm, an, cdv, ct, osl, rfl, lk, hcd⟩ := F.ex
    exact h1 kV doc pm an cdv ct
  · obtain ⟨oc, od, kV, doc, pm, an, cdv, ct, osl, rfl, lk, hcd⟩ := F.ex
    exact fun s0 ws hl ks e => h2 kV doc pm an cdv ct s0 ws hl ks e
theorem cr_ok {C : Addr} {nm : Str} {newId : String} {bmB : List Value} (cl : Exv.Cl K C newId bmB) (c : crB K C nm = true) : Rp.ClR K C nm := by
  obtain ⟨c1, c2⟩ := ba c
  cases q : PySem.W.clsIn K C with
  | none => rw [q] at c1; cases c1
  | some cd =>
    rw [q] at c1
    exact ⟨⟨_, _, cl⟩, ⟨cd, q, of_decide_eq_true c1⟩, eqO_ok c2⟩
theorem sci_InvalidEntries : FnScope ["self", "position"] ["self", "position"] (defScope i_InvalidEntries) := ⟨rfl, rfl, rfl, by decide +kernel, rfl, by decide +kernel, by decide +kernel⟩
theorem sci_InvalidNames : FnScope ["self", "position"] ["self", "position"] (defScope i_InvalidNames) := ⟨rfl, rfl, rfl, by decide +kernel, rfl, by decide +kernel, by decide +kernel⟩
theorem sci_InvalidKinds : FnScope ["self", "value"] ["self", "value"] (defScope i_InvalidKinds) := ⟨rfl, rfl, rfl, by decide +kernel, rfl, by decide +kernel, by decide +kernel⟩
theorem sci_InvalidRenaming : FnScope ["self", "value"] ["self", "value"] (defScope i_InvalidRenaming) := ⟨rfl, rfl, rfl, by decide +kernel, rfl, by decide +kernel, by decide +kernel⟩
theorem sci_InvalidSize : FnScope ["self", "value"] ["self", "value"] (defScope i_InvalidSize) := ⟨rfl, rfl, rfl, by decide +kernel, rfl, by decide +kernel, by decide +kernel⟩
theorem sci_InvalidLines : FnScope ["self", "position"] ["self", "position"] (defScope i_InvalidLines) := ⟨rfl, rfl, rfl, by decide +kernel, rfl, by decide +kernel, by decide +kernel⟩
theorem sci_InvalidSet : FnScope ["self", "position"] ["self", "position"] (defScope i_InvalidSet) := ⟨rfl, rfl, rfl, by decide +kernel, rfl, by decide +kernel, by decide +kernel⟩
theorem sci_InvalidChoice : FnScope ["self", "value"] ["self", "value"] (defScope i_InvalidChoice) := ⟨rfl, rfl, rfl, by decide +kernel, rfl, by decide +kernel, by decide +kernel⟩
theorem sci_InvalidMarks : FnScope ["self", "position"] ["self", "position"] (defScope i_InvalidMarks) := ⟨rfl, rfl, rfl, by decide +kernel, rfl, by decide +kernel, by decide +kernel⟩
theorem sci_InvalidHeight : FnScope ["self", "value"] ["self", "value"] (defScope i_InvalidHeight) := ⟨rfl, rfl, rfl, by decide +kernel, rfl, by decide +kernel, by decide +kernel⟩
theorem sci_InvalidPeriod : FnScope ["self", "value"] ["self", "value"] (defScope i_InvalidPeriod) := ⟨rfl, rfl, rfl, by decide +kernel, rfl, by decide +kernel, by decide +kernel⟩
theorem sci_InvalidPartners : FnScope ["self", "value"] ["self", "value"] (defScope i_InvalidPartners) := ⟨rfl, rfl, rfl, by decide +kernel, rfl, by decide +kernel, by decide +kernel⟩
theorem sci_InvalidColumn : FnScope ["self", "value"] ["self", "value"] (defScope i_InvalidColumn) := ⟨rfl, rfl, rfl, by decide +kernel, rfl, by decide +kernel, by decide +kernel⟩
theorem sci_InvalidState : FnScope ["self", "value"] ["self", "value"] (defScope i_InvalidState) := ⟨rfl, rfl, rfl, by decide +kernel, rfl, by decide +kernel, by decide +kernel⟩
theorem sci_InvalidLength : FnScope ["self", "value"] ["self", "value"] (defScope i_InvalidLength) := ⟨rfl, rfl, rfl, by decide +kernel, rfl, by decide +kernel, by decide +kernel⟩
theorem sci_InvalidText : FnScope ["self", "line"] ["self", "line"] (defScope i_InvalidText) := ⟨rfl, rfl, rfl, by decide +kernel, rfl, by decide +kernel, by decide +kernel⟩
theorem sci_InvalidClaim : FnScope ["self", "value"] ["self", "value"] (defScope i_InvalidClaim) := ⟨rfl, rfl, rfl, by decide +kernel, rfl, by decide +kernel, by decide +kernel⟩
theorem sci_InvalidWay : FnScope ["self", "value"] ["self", "value"] (defScope i_InvalidWay) := ⟨rfl, rfl, rfl, by decide +kernel, rfl, by decide +kernel, by decide +kernel⟩
theorem sci_InvalidCommand : FnScope ["self", "value"] ["self", "value"] (defScope i_InvalidCommand) := ⟨rfl, rfl, rfl, by decide +kernel, rfl, by decide +kernel, by decide +kernel⟩
theorem sci_UnknownName : FnScope ["self", "value"] ["self", "value"] (defScope i_UnknownName) := ⟨rfl, rfl, rfl, by decide +kernel, rfl, by decide +kernel, by decide +kernel⟩
theorem sci_UnknownKind : FnScope ["self", "value"] ["self", "value"] (defScope i_UnknownKind) := ⟨rfl, rfl, rfl, by decide +kernel, rfl, by decide +kernel, by decide +kernel⟩
theorem sci_UnknownCell : FnScope ["self", "value"] ["self", "value"] (defScope i_UnknownCell) := ⟨rfl, rfl, rfl, by decide +kernel, rfl, by decide +kernel, by decide +kernel⟩
theorem sci_UnknownLine : FnScope ["self", "value"] ["self", "value"] (defScope i_UnknownLine) := ⟨rfl, rfl, rfl, by decide +kernel, rfl, by decide +kernel, by decide +kernel⟩
theorem sci_KindTaken : FnScope ["self", "value"] ["self", "value"] (defScope i_KindTaken) := ⟨rfl, rfl, rfl, by decide +kernel, rfl, by decide +kernel, by decide +kernel⟩
theorem sci_SameKinds : FnScope ["self", "one", "other"] ["self", "one", "other"] (defScope i_SameKinds) := ⟨rfl, rfl, rfl, by decide +kernel, rfl, by decide +kernel, by decide +kernel⟩
theorem sci_NotFlat : FnScope ["self", "value"] ["self", "value"] (defScope i_NotFlat) := ⟨rfl, rfl, rfl, by decide +kernel, rfl, by decide +kernel, by decide +kernel⟩
theorem sci_OtherPiece : FnScope ["self", "one", "other"] ["self", "one", "other"] (defScope i_OtherPiece) := ⟨rfl, rfl, rfl, by decide +kernel, rfl, by decide +kernel, by decide +kernel⟩
theorem sci_Marked : FnScope ["self", "value"] ["self", "value"] (defScope i_Marked) := ⟨rfl, rfl, rfl, by decide +kernel, rfl, by decide +kernel, by decide +kernel⟩
theorem sci_WrongTurn : FnScope ["self", "value"] ["self", "value"] (defScope i_WrongTurn) := ⟨rfl, rfl, rfl, by decide +kernel, rfl, by decide +kernel, by decide +kernel⟩
theorem sci_NoAnswer : FnScope ["self"] ["self"] (defScope i_NoAnswer) := ⟨rfl, rfl, rfl, by decide +kernel, rfl, by decide +kernel, by decide +kernel⟩
theorem sci_NothingToUndo : FnScope ["self"] ["self"] (defScope i_NothingToUndo) := ⟨rfl, rfl, rfl, by decide +kernel, rfl, by decide +kernel, by decide +kernel⟩
theorem sci_CommandFailed : FnScope ["self", "position"] ["self", "position"] (defScope i_CommandFailed) := ⟨rfl, rfl, rfl, by decide +kernel, rfl, by decide +kernel, by decide +kernel⟩
theorem sci_TooMany : FnScope ["self", "what", "limit"] ["self", "what", "limit"] (defScope i_TooMany) := ⟨rfl, rfl, rfl, by decide +kernel, rfl, by decide +kernel, by decide +kernel⟩
theorem t_n_len (X : K.In h) (G : h.Ns mainGlobals mg) (cc : obsF fb fnL K = valD fnL) : mg "len" = none := by
  have c : fb K = true := says_fb cc
  exact free_ok X G (fa_at c 0)
theorem t_n_int (X : K.In h) (G : h.Ns mainGlobals mg) (cc : obsF fb fnL K = valD fnL) : mg "int" = none := by
  have c : fb K = true := says_fb cc
  exact free_ok X G (fa_at c 1)
theorem t_n_abs (X : K.In h) (G : h.Ns mainGlobals mg) (cc : obsF fb fnL K = valD fnL) : mg "abs" = none := by
  have c : fb K = true := says_fb cc
  exact free_ok X G (fa_at c 2)
theorem t_n_max (X : K.In h) (G : h.Ns mainGlobals mg) (cc : obsF fb fnL K = valD fnL) : mg "max" = none := by
  have c : fb K = true := says_fb cc
  exact free_ok X G (fa_at c 3)
theorem t_n_divmod (X : K.In h) (G : h.Ns mainGlobals mg) (cc : obsF fb fnL K = valD fnL) : mg "divmod" = none := by
  have c : fb K = true := says_fb cc
  exact free_ok X G (fa_at c 4)
theorem t_n_isinstance (X : K.In h) (G : h.Ns mainGlobals mg) (cc : obsF fb fnL K = valD fnL) : mg "isinstance" = none := by
  have c : fb K = true := says_fb cc
  exact free_ok X G (fa_at c 5)
theorem t_n_bool (X : K.In h) (G : h.Ns mainGlobals mg) (cc : obsF fb fnL K = valD fnL) : mg "bool" = none := by
  have c : fb K = true := says_fb cc
  exact free_ok X G (fa_at c 6)
theorem t_n_str (X : K.In h) (G : h.Ns mainGlobals mg) (cc : obsF fb fnL K = valD fnL) : mg "str" = none := by
  have c : fb K = true := says_fb cc
  exact free_ok X G (fa_at c 7)
theorem t_n_repr (X : K.In h) (G : h.Ns mainGlobals mg) (cc : obsF fb fnL K = valD fnL) : mg "repr" = none := by
  have c : fb K = true := says_fb cc
  exact free_ok X G (fa_at c 8)
theorem t_n_range (X : K.In h) (G : h.Ns mainGlobals mg) (cc : obsF fb fnL K = valD fnL) : mg "range" = none := by
  have c : fb K = true := says_fb cc
  exact free_ok X G (fa_at c 9)
theorem t_n_all (X : K.In h) (G : h.Ns mainGlobals mg) (cc : obsF fb fnL K = valD fnL) : mg "all" = none := by
  have c : fb K = true := says_fb cc
  exact free_ok X G (fa_at c 10)
theorem t_n_sum (X : K.In h) (G : h.Ns mainGlobals mg) (cc : obsF fb fnL K = valD fnL) : mg "sum" = none := by
  have c : fb K = true := says_fb cc
  exact free_ok X G (fa_at c 11)
theorem t_n_min (X : K.In h) (G : h.Ns mainGlobals mg) (cc : obsF fb fnL K = valD fnL) : mg "min" = none := by
  have c : fb K = true := says_fb cc
  exact free_ok X G (fa_at c 12)
theorem t_n_ValueError (X : K.In h) (G : h.Ns mainGlobals mg) (cc : obsF fb fnL K = valD fnL) : mg "ValueError" = none := by
  have c : fb K = true := says_fb cc
  exact free_ok X G (fa_at c 13)
theorem t_n_LookupError (X : K.In h) (G : h.Ns mainGlobals mg) (cc : obsF fb fnL K = valD fnL) : mg "LookupError" = none := by
  have c : fb K = true := says_fb cc
  exact free_ok X G (fa_at c 14)
theorem t_n_RuntimeError (X : K.In h) (G : h.Ns mainGlobals mg) (cc : obsF fb fnL K = valD fnL) : mg "RuntimeError" = none := by
  have c : fb K = true := says_fb cc
  exact free_ok X G (fa_at c 15)
theorem t_n_ArithmeticError (X : K.In h) (G : h.Ns mainGlobals mg) (cc : obsF fb fnL K = valD fnL) : mg "ArithmeticError" = none := by
  have c : fb K = true := says_fb cc
  exact free_ok X G (fa_at c 16)
theorem t_c_MOST_LETTERS (X : K.In h) (G : h.Ns mainGlobals mg) (cc : obsF fb fnL K = valD fnL) : ∃ u, mg "MOST_LETTERS" = some u ∧ RelV (.int 8) u := by
  have c : fb K = true := says_fb cc
  obtain ⟨t, e⟩ := int_ok X G (fa_at c 17); exact ⟨_, e, t, rfl⟩
theorem t_S_is_integer (X : K.In h) (G : h.Ns mainGlobals mg) (cc : obsF fb fnL K = valD fnL) : Src K mg "is_integer" s_is_integer ["value"] := by
  have c : fb K = true := says_fb cc
  have cf := says_fn cc
  obtain ⟨d_is_integer, F_is_integer⟩ := cf.def_ 0
  exact src_of (fun_of F_is_integer) (glo_ok X G (fa_at c 18)) (fun _ _ _ _ _ _ us hl => match us, hl with | [_], _ => rfl) (fun _ _ _ _ _ _ p v e => by cases e; rfl)
theorem t_S_is_count (X : K.In h) (G : h.Ns mainGlobals mg) (cc : obsF fb fnL K = valD fnL) : Src K mg "is_count" s_is_count ["value"] := by
  have c : fb K = true := says_fb cc
  have cf := says_fn cc
  obtain ⟨d_is_count, F_is_count⟩ := cf.def_ 1
  exact src_of (fun_of F_is_count) (glo_ok X G (fa_at c 19)) (fun _ _ _ _ _ _ us hl => match us, hl with | [_], _ => rfl) (fun _ _ _ _ _ _ p v e => by cases e; rfl)
theorem t_S_is_name (X : K.In h) (G : h.Ns mainGlobals mg) (cc : obsF fb fnL K = valD fnL) : Src K mg "is_name" s_is_name ["value"] := by
  have c : fb K = true := says_fb cc
  have cf := says_fn cc
  obtain ⟨d_is_name, F_is_name⟩ := cf.def_ 2
  exact src_of (fun_of F_is_name) (glo_ok X G (fa_at c 20)) (fun _ _ _ _ _ _ us hl => match us, hl with | [_], _ => rfl) (fun _ _ _ _ _ _ p v e => by cases e; rfl)
theorem t_S_l_pot (X : K.In h) (G : h.Ns mainGlobals mg) (cc : obsF fb fnL K = valD fnL) : Src K mg "_law_pot" s_l_pot ["_law_script", "_law_k"] := by
  have c : fb K = true := says_fb cc
  have cf := says_fn cc
  obtain ⟨d_l_pot, F_l_pot⟩ := cf.def_ 3
  exact src_of (fun_of F_l_pot) (glo_ok X G (fa_at c 21)) (fun _ _ _ _ _ _ us hl => match us, hl with | [_, _], _ => rfl) (fun _ _ _ _ _ _ p v e => by cases e)
theorem t_S_l_draw (X : K.In h) (G : h.Ns mainGlobals mg) (cc : obsF fb fnL K = valD fnL) : Src K mg "_law_draw" s_l_draw ["_law_pot_here", "_law_many"] := by
  have c : fb K = true := says_fb cc
  have cf := says_fn cc
  obtain ⟨d_l_draw, F_l_draw⟩ := cf.def_ 4
  exact src_of (fun_of F_l_draw) (glo_ok X G (fa_at c 22)) (fun _ _ _ _ _ _ us hl => match us, hl with | [_, _], _ => rfl) (fun _ _ _ _ _ _ p v e => by cases e)
theorem t_S_l_among (X : K.In h) (G : h.Ns mainGlobals mg) (cc : obsF fb fnL K = valD fnL) : Src K mg "_law_among" s_l_among ["_law_pot_here", "_law_some"] := by
  have c : fb K = true := says_fb cc
  have cf := says_fn cc
  obtain ⟨d_l_among, F_l_among⟩ := cf.def_ 5
  exact src_of (fun_of F_l_among) (glo_ok X G (fa_at c 23)) (fun _ _ _ _ _ _ us hl => match us, hl with | [_, _], _ => rfl) (fun _ _ _ _ _ _ p v e => by cases e)
theorem t_S_l_thing (X : K.In h) (G : h.Ns mainGlobals mg) (cc : obsF fb fnL K = valD fnL) : Src K mg "_law_thing" s_l_thing ["_law_pot_here"] := by
  have c : fb K = true := says_fb cc
  have cf := says_fn cc
  obtain ⟨d_l_thing, F_l_thing⟩ := cf.def_ 6
  exact src_of (fun_of F_l_thing) (glo_ok X G (fa_at c 24)) (fun _ _ _ _ _ _ us hl => match us, hl with | [_], _ => rfl) (fun _ _ _ _ _ _ p v e => by cases e; rfl)
theorem t_S_l_basics_right (X : K.In h) (G : h.Ns mainGlobals mg) (cc : obsF fb fnL K = valD fnL) : Src K mg "_law_basics_right" s_l_basics_right ["_law_pot_here"] := by
  have c : fb K = true := says_fb cc
  have cf := says_fn cc
  obtain ⟨d_l_basics_right, F_l_basics_right⟩ := cf.def_ 7
  exact src_of (fun_of F_l_basics_right) (glo_ok X G (fa_at c 25)) (fun _ _ _ _ _ _ us hl => match us, hl with | [_], _ => rfl) (fun _ _ _ _ _ _ p v e => by cases e; rfl)
theorem t_S_l_singles (X : K.In h) (G : h.Ns mainGlobals mg) (cc : obsF fb fnL K = valD fnL) : Src K mg "_law_singles" s_l_singles ["_law_thing_here"] := by
  have c : fb K = true := says_fb cc
  have cf := says_fn cc
  obtain ⟨d_l_singles, F_l_singles⟩ := cf.def_ 8
  exact src_of (fun_of F_l_singles) (glo_ok X G (fa_at c 26)) (fun _ _ _ _ _ _ us hl => match us, hl with | [_], _ => rfl) (fun _ _ _ _ _ _ p v e => by cases e; rfl)
theorem t_S_l_branches (X : K.In h) (G : h.Ns mainGlobals mg) (cc : obsF fb fnL K = valD fnL) : Src K mg "_law_branches" s_l_branches ["_law_made"] := by
  have c : fb K = true := says_fb cc
  have cf := says_fn cc
  obtain ⟨d_l_branches, F_l_branches⟩ := cf.def_ 9
  exact src_of (fun_of F_l_branches) (glo_ok X G (fa_at c 27)) (fun _ _ _ _ _ _ us hl => match us, hl with | [_], _ => rfl) (fun _ _ _ _ _ _ p v e => by cases e; rfl)
theorem t_S_l_due (X : K.In h) (G : h.Ns mainGlobals mg) (cc : obsF fb fnL K = valD fnL) : Src K mg "_law_due" s_l_due ["_law_branch"] := by
  have c : fb K = true := says_fb cc
  have cf := says_fn cc
  obtain ⟨d_l_due, F_l_due⟩ := cf.def_ 10
  exact src_of (fun_of F_l_due) (glo_ok X G (fa_at c 28)) (fun _ _ _ _ _ _ us hl => match us, hl with | [_], _ => rfl) (fun _ _ _ _ _ _ p v e => by cases e; rfl)
theorem t_S_l_many_own (X : K.In h) (G : h.Ns mainGlobals mg) (cc : obsF fb fnL K = valD fnL) : Src K mg "_law_many_own" s_l_many_own ["_law_made"] := by
  have c : fb K = true := says_fb cc
  have cf := says_fn cc
  obtain ⟨d_l_many_own, F_l_many_own⟩ := cf.def_ 11
  exact src_of (fun_of F_l_many_own) (glo_ok X G (fa_at c 29)) (fun _ _ _ _ _ _ us hl => match us, hl with | [_], _ => rfl) (fun _ _ _ _ _ _ p v e => by cases e; rfl)
theorem t_S_l_errors_right (X : K.In h) (G : h.Ns mainGlobals mg) (cc : obsF fb fnL K = valD fnL) : Src K mg "_law_errors_right" s_l_errors_right ["_law_pot_here"] := by
  have c : fb K = true := says_fb cc
  have cf := says_fn cc
  obtain ⟨d_l_errors_right, F_l_errors_right⟩ := cf.def_ 12
  exact src_of (fun_of F_l_errors_right) (glo_ok X G (fa_at c 30)) (fun _ _ _ _ _ _ us hl => match us, hl with | [_], _ => rfl) (fun _ _ _ _ _ _ p v e => by cases e; rfl)
theorem t_S_law (X : K.In h) (G : h.Ns mainGlobals mg) (cc : obsF fb fnL K = valD fnL) : Src K mg "law" s_law ["_law_script"] := by
  have c : fb K = true := says_fb cc
  have cf := says_fn cc
  obtain ⟨d_law, F_law⟩ := cf.def_ 13
  exact src_of (fun_of F_law) (glo_ok X G (fa_at c 31)) (fun _ _ _ _ _ _ us hl => match us, hl with | [_], _ => rfl) (fun _ _ _ _ _ _ p v e => by cases e; rfl)
theorem t_g_LineError (X : K.In h) (G : h.Ns mainGlobals mg) (cc : obsF fb fnL K = valD fnL) : mg "LineError" = some (.ref (He.ga K "LineError")) := by
  have c : fb K = true := says_fb cc
  exact glo_ok X G (fa_at c 32)
theorem t_g_MissingError (X : K.In h) (G : h.Ns mainGlobals mg) (cc : obsF fb fnL K = valD fnL) : mg "MissingError" = some (.ref (He.ga K "MissingError")) := by
  have c : fb K = true := says_fb cc
  exact glo_ok X G (fa_at c 33)
theorem t_g_StateError (X : K.In h) (G : h.Ns mainGlobals mg) (cc : obsF fb fnL K = valD fnL) : mg "StateError" = some (.ref (He.ga K "StateError")) := by
  have c : fb K = true := says_fb cc
  exact glo_ok X G (fa_at c 34)
theorem t_g_LimitError (X : K.In h) (G : h.Ns mainGlobals mg) (cc : obsF fb fnL K = valD fnL) : mg "LimitError" = some (.ref (He.ga K "LimitError")) := by
  have c : fb K = true := says_fb cc
  exact glo_ok X G (fa_at c 35)
theorem t_g_InvalidEntries (X : K.In h) (G : h.Ns mainGlobals mg) (cc : obsF fb fnL K = valD fnL) : mg "InvalidEntries" = some (.ref (He.ga K "InvalidEntries")) := by
  have c : fb K = true := says_fb cc
  exact glo_ok X G (fa_at c 36)
theorem t_g_InvalidNames (X : K.In h) (G : h.Ns mainGlobals mg) (cc : obsF fb fnL K = valD fnL) : mg "InvalidNames" = some (.ref (He.ga K "InvalidNames")) := by
  have c : fb K = true := says_fb cc
  exact glo_ok X G (fa_at c 37)
theorem t_g_InvalidKinds (X : K.In h) (G : h.Ns mainGlobals mg) (cc : obsF fb fnL K = valD fnL) : mg "InvalidKinds" = some (.ref (He.ga K "InvalidKinds")) := by
  have c : fb K = true := says_fb cc
  exact glo_ok X G (fa_at c 38)
theorem t_g_InvalidRenaming (X : K.In h) (G : h.Ns mainGlobals mg) (cc : obsF fb fnL K = valD fnL) : mg "InvalidRenaming" = some (.ref (He.ga K "InvalidRenaming")) := by
  have c : fb K = true := says_fb cc
  exact glo_ok X G (fa_at c 39)
theorem t_g_InvalidSize (X : K.In h) (G : h.Ns mainGlobals mg) (cc : obsF fb fnL K = valD fnL) : mg "InvalidSize" = some (.ref (He.ga K "InvalidSize")) := by
  have c : fb K = true := says_fb cc
  exact glo_ok X G (fa_at c 40)
theorem t_g_InvalidLines (X : K.In h) (G : h.Ns mainGlobals mg) (cc : obsF fb fnL K = valD fnL) : mg "InvalidLines" = some (.ref (He.ga K "InvalidLines")) := by
  have c : fb K = true := says_fb cc
  exact glo_ok X G (fa_at c 41)
theorem t_g_InvalidSet (X : K.In h) (G : h.Ns mainGlobals mg) (cc : obsF fb fnL K = valD fnL) : mg "InvalidSet" = some (.ref (He.ga K "InvalidSet")) := by
  have c : fb K = true := says_fb cc
  exact glo_ok X G (fa_at c 42)
theorem t_g_InvalidChoice (X : K.In h) (G : h.Ns mainGlobals mg) (cc : obsF fb fnL K = valD fnL) : mg "InvalidChoice" = some (.ref (He.ga K "InvalidChoice")) := by
  have c : fb K = true := says_fb cc
  exact glo_ok X G (fa_at c 43)
theorem t_g_InvalidMarks (X : K.In h) (G : h.Ns mainGlobals mg) (cc : obsF fb fnL K = valD fnL) : mg "InvalidMarks" = some (.ref (He.ga K "InvalidMarks")) := by
  have c : fb K = true := says_fb cc
  exact glo_ok X G (fa_at c 44)
theorem t_g_InvalidHeight (X : K.In h) (G : h.Ns mainGlobals mg) (cc : obsF fb fnL K = valD fnL) : mg "InvalidHeight" = some (.ref (He.ga K "InvalidHeight")) := by
  have c : fb K = true := says_fb cc
  exact glo_ok X G (fa_at c 45)
theorem t_g_InvalidPeriod (X : K.In h) (G : h.Ns mainGlobals mg) (cc : obsF fb fnL K = valD fnL) : mg "InvalidPeriod" = some (.ref (He.ga K "InvalidPeriod")) := by
  have c : fb K = true := says_fb cc
  exact glo_ok X G (fa_at c 46)
theorem t_g_InvalidPartners (X : K.In h) (G : h.Ns mainGlobals mg) (cc : obsF fb fnL K = valD fnL) : mg "InvalidPartners" = some (.ref (He.ga K "InvalidPartners")) := by
  have c : fb K = true := says_fb cc
  exact glo_ok X G (fa_at c 47)
theorem t_g_InvalidColumn (X : K.In h) (G : h.Ns mainGlobals mg) (cc : obsF fb fnL K = valD fnL) : mg "InvalidColumn" = some (.ref (He.ga K "InvalidColumn")) := by
  have c : fb K = true := says_fb cc
  exact glo_ok X G (fa_at c 48)
theorem t_g_InvalidState (X : K.In h) (G : h.Ns mainGlobals mg) (cc : obsF fb fnL K = valD fnL) : mg "InvalidState" = some (.ref (He.ga K "InvalidState")) := by
  have c : fb K = true := says_fb cc
  exact glo_ok X G (fa_at c 49)
theorem t_g_InvalidLength (X : K.In h) (G : h.Ns mainGlobals mg) (cc : obsF fb fnL K = valD fnL) : mg "InvalidLength" = some (.ref (He.ga K "InvalidLength")) := by
  have c : fb K = true := says_fb cc
  exact glo_ok X G (fa_at c 50)
theorem t_g_InvalidText (X : K.In h) (G : h.Ns mainGlobals mg) (cc : obsF fb fnL K = valD fnL) : mg "InvalidText" = some (.ref (He.ga K "InvalidText")) := by
  have c : fb K = true := says_fb cc
  exact glo_ok X G (fa_at c 51)
theorem t_g_InvalidClaim (X : K.In h) (G : h.Ns mainGlobals mg) (cc : obsF fb fnL K = valD fnL) : mg "InvalidClaim" = some (.ref (He.ga K "InvalidClaim")) := by
  have c : fb K = true := says_fb cc
  exact glo_ok X G (fa_at c 52)
theorem t_g_InvalidWay (X : K.In h) (G : h.Ns mainGlobals mg) (cc : obsF fb fnL K = valD fnL) : mg "InvalidWay" = some (.ref (He.ga K "InvalidWay")) := by
  have c : fb K = true := says_fb cc
  exact glo_ok X G (fa_at c 53)
theorem t_g_InvalidCommand (X : K.In h) (G : h.Ns mainGlobals mg) (cc : obsF fb fnL K = valD fnL) : mg "InvalidCommand" = some (.ref (He.ga K "InvalidCommand")) := by
  have c : fb K = true := says_fb cc
  exact glo_ok X G (fa_at c 54)
theorem t_g_UnknownName (X : K.In h) (G : h.Ns mainGlobals mg) (cc : obsF fb fnL K = valD fnL) : mg "UnknownName" = some (.ref (He.ga K "UnknownName")) := by
  have c : fb K = true := says_fb cc
  exact glo_ok X G (fa_at c 55)
theorem t_g_UnknownKind (X : K.In h) (G : h.Ns mainGlobals mg) (cc : obsF fb fnL K = valD fnL) : mg "UnknownKind" = some (.ref (He.ga K "UnknownKind")) := by
  have c : fb K = true := says_fb cc
  exact glo_ok X G (fa_at c 56)
theorem t_g_UnknownCell (X : K.In h) (G : h.Ns mainGlobals mg) (cc : obsF fb fnL K = valD fnL) : mg "UnknownCell" = some (.ref (He.ga K "UnknownCell")) := by
  have c : fb K = true := says_fb cc
  exact glo_ok X G (fa_at c 57)
theorem t_g_UnknownLine (X : K.In h) (G : h.Ns mainGlobals mg) (cc : obsF fb fnL K = valD fnL) : mg "UnknownLine" = some (.ref (He.ga K "UnknownLine")) := by
  have c : fb K = true := says_fb cc
  exact glo_ok X G (fa_at c 58)
theorem t_g_KindTaken (X : K.In h) (G : h.Ns mainGlobals mg) (cc : obsF fb fnL K = valD fnL) : mg "KindTaken" = some (.ref (He.ga K "KindTaken")) := by
  have c : fb K = true := says_fb cc
  exact glo_ok X G (fa_at c 59)
theorem t_g_SameKinds (X : K.In h) (G : h.Ns mainGlobals mg) (cc : obsF fb fnL K = valD fnL) : mg "SameKinds" = some (.ref (He.ga K "SameKinds")) := by
  have c : fb K = true := says_fb cc
  exact glo_ok X G (fa_at c 60)
theorem t_g_NotFlat (X : K.In h) (G : h.Ns mainGlobals mg) (cc : obsF fb fnL K = valD fnL) : mg "NotFlat" = some (.ref (He.ga K "NotFlat")) := by
  have c : fb K = true := says_fb cc
  exact glo_ok X G (fa_at c 61)
theorem t_g_OtherPiece (X : K.In h) (G : h.Ns mainGlobals mg) (cc : obsF fb fnL K = valD fnL) : mg "OtherPiece" = some (.ref (He.ga K "OtherPiece")) := by
  have c : fb K = true := says_fb cc
  exact glo_ok X G (fa_at c 62)
theorem t_g_Marked (X : K.In h) (G : h.Ns mainGlobals mg) (cc : obsF fb fnL K = valD fnL) : mg "Marked" = some (.ref (He.ga K "Marked")) := by
  have c : fb K = true := says_fb cc
  exact glo_ok X G (fa_at c 63)
theorem t_g_WrongTurn (X : K.In h) (G : h.Ns mainGlobals mg) (cc : obsF fb fnL K = valD fnL) : mg "WrongTurn" = some (.ref (He.ga K "WrongTurn")) := by
  have c : fb K = true := says_fb cc
  exact glo_ok X G (fa_at c 64)
theorem t_g_NoAnswer (X : K.In h) (G : h.Ns mainGlobals mg) (cc : obsF fb fnL K = valD fnL) : mg "NoAnswer" = some (.ref (He.ga K "NoAnswer")) := by
  have c : fb K = true := says_fb cc
  exact glo_ok X G (fa_at c 65)
theorem t_g_NothingToUndo (X : K.In h) (G : h.Ns mainGlobals mg) (cc : obsF fb fnL K = valD fnL) : mg "NothingToUndo" = some (.ref (He.ga K "NothingToUndo")) := by
  have c : fb K = true := says_fb cc
  exact glo_ok X G (fa_at c 66)
theorem t_g_CommandFailed (X : K.In h) (G : h.Ns mainGlobals mg) (cc : obsF fb fnL K = valD fnL) : mg "CommandFailed" = some (.ref (He.ga K "CommandFailed")) := by
  have c : fb K = true := says_fb cc
  exact glo_ok X G (fa_at c 67)
theorem t_g_TooMany (X : K.In h) (G : h.Ns mainGlobals mg) (cc : obsF fb fnL K = valD fnL) : mg "TooMany" = some (.ref (He.ga K "TooMany")) := by
  have c : fb K = true := says_fb cc
  exact glo_ok X G (fa_at c 68)
theorem t_e_InvalidEntries (X : K.In h) (G : h.Ns mainGlobals mg) (cc : obsF fb fnL K = valD fnL) : ∀ P w base, Exv.Ec P w K mg base "InvalidEntries" (He.ga K "InvalidEntries") "ValueError.__new__" [.type "ValueError", .type "Exception", .type "BaseException", .type "object"] ["self", "position"] 1 (Exv.mk1 "position") := by
  have c : fb K = true := says_fb cc
  have cf := says_fn cc
  obtain ⟨d_InvalidEntries, F_InvalidEntries⟩ := cf.def_ 14
  exact fun P w base => ec_of (glo_ok X G (fa_at c 36)) (clx_at X c 0) (in_at c 0) (fun_of (x := "__init__") (qual := "InvalidEntries.__init__") (st := i_InvalidEntries) F_InvalidEntries) (Exv.init1 Exv.bsV (fun_of (x := "__init__") (qual := "InvalidEntries.__init__") (st := i_InvalidEntries) F_InvalidEntries) sci_InvalidEntries rfl (by decide) (by decide) (clx_at X c 0) (noat_ok (x := "InvalidEntries") (f := "position") (fa_at c 69)) (fun _ => rfl)) (fun _ _ _ _ _ _ us hl => match us, hl with | [_, _], _ => rfl) (fun _ _ _ _ _ _ s0 ws hl ks e => by match ws, hl with | [_], _ => rw [List.append_cancel_right (bs := [("self" : Str)]) (as := ks) (cs := ["position"]) e]; rfl)
theorem t_no_InvalidEntries_position (X : K.In h) (G : h.Ns mainGlobals mg) (cc : obsF fb fnL K = valD fnL) : PySem.W.findIn K (.ref (He.ga K "InvalidEntries")) "position" = some none := by
  have c : fb K = true := says_fb cc
  exact noat_ok (x := "InvalidEntries") (f := "position") (fa_at c 69)
theorem t_e_InvalidNames (X : K.In h) (G : h.Ns mainGlobals mg) (cc : obsF fb fnL K = valD fnL) : ∀ P w base, Exv.Ec P w K mg base "InvalidNames" (He.ga K "InvalidNames") "ValueError.__new__" [.type "ValueError", .type "Exception", .type "BaseException", .type "object"] ["self", "position"] 1 (Exv.mk1 "position") := by
  have c : fb K = true := says_fb cc
  have cf := says_fn cc
  obtain ⟨d_InvalidNames, F_InvalidNames⟩ := cf.def_ 15
  exact fun P w base => ec_of (glo_ok X G (fa_at c 37)) (clx_at X c 1) (in_at c 1) (fun_of (x := "__init__") (qual := "InvalidNames.__init__") (st := i_InvalidNames) F_InvalidNames) (Exv.init1 Exv.bsV (fun_of (x := "__init__") (qual := "InvalidNames.__init__") (st := i_InvalidNames) F_InvalidNames) sci_InvalidNames rfl (by decide) (by decide) (clx_at X c 1) (noat_ok (x := "InvalidNames") (f := "position") (fa_at c 70)) (fun _ => rfl)) (fun _ _ _ _ _ _ us hl => match us, hl with | [_, _], _ => rfl) (fun _ _ _ _ _ _ s0 ws hl ks e => by match ws, hl with | [_], _ => rw [List.append_cancel_right (bs := [("self" : Str)]) (as := ks) (cs := ["position"]) e]; rfl)
theorem t_no_InvalidNames_position (X : K.In h) (G : h.Ns mainGlobals mg) (cc : obsF fb fnL K = valD fnL) : PySem.W.findIn K (.ref (He.ga K "InvalidNames")) "position" = some none := by
  have c : fb K = true := says_fb cc
  exact noat_ok (x := "InvalidNames") (f := "position") (fa_at c 70)
theorem t_e_InvalidKinds (X : K.In h) (G : h.Ns mainGlobals mg) (cc : obsF fb fnL K = valD fnL) : ∀ P w base, Exv.Ec P w K mg base "InvalidKinds" (He.ga K "InvalidKinds") "ValueError.__new__" [.type "ValueError", .type "Exception", .type "BaseException", .type "object"] ["self", "value"] 1 (Exv.mk1 "value") := by
  have c : fb K = true := says_fb cc
  have cf := says_fn cc
  obtain ⟨d_InvalidKinds, F_InvalidKinds⟩ := cf.def_ 16
  exact fun P w base => ec_of (glo_ok X G (fa_at c 38)) (clx_at X c 2) (in_at c 2) (fun_of (x := "__init__") (qual := "InvalidKinds.__init__") (st := i_InvalidKinds) F_InvalidKinds) (Exv.init1 Exv.bsV (fun_of (x := "__init__") (qual := "InvalidKinds.__init__") (st := i_InvalidKinds) F_InvalidKinds) sci_InvalidKinds rfl (by decide) (by decide) (clx_at X c 2) (noat_ok (x := "InvalidKinds") (f := "value") (fa_at c 71)) (fun _ => rfl)) (fun _ _ _ _ _ _ us hl => match us, hl with | [_, _], _ => rfl) (fun _ _ _ _ _ _ s0 ws hl ks e => by match ws, hl with | [_], _ => rw [List.append_cancel_right (bs := [("self" : Str)]) (as := ks) (cs := ["value"]) e]; rfl)
theorem t_no_InvalidKinds_value (X : K.In h) (G : h.Ns mainGlobals mg) (cc : obsF fb fnL K = valD fnL) : PySem.W.findIn K (.ref (He.ga K "InvalidKinds")) "value" = some none := by
  have c : fb K = true := says_fb cc
  exact noat_ok (x := "InvalidKinds") (f := "value") (fa_at c 71)
theorem t_e_InvalidRenaming (X : K.In h) (G : h.Ns mainGlobals mg) (cc : obsF fb fnL K = valD fnL) : ∀ P w base, Exv.Ec P w K mg base "InvalidRenaming" (He.ga K "InvalidRenaming") "ValueError.__new__" [.type "ValueError", .type "Exception", .type "BaseException", .type "object"] ["self", "value"] 1 (Exv.mk1 "value") := by
  have c : fb K = true := says_fb cc
  have cf := says_fn cc
  obtain ⟨d_InvalidRenaming, F_InvalidRenaming⟩ := cf.def_ 17
  exact fun P w base => ec_of (glo_ok X G (fa_at c 39)) (clx_at X c 3) (in_at c 3) (fun_of (x := "__init__") (qual := "InvalidRenaming.__init__") (st := i_InvalidRenaming) F_InvalidRenaming) (Exv.init1 Exv.bsV (fun_of (x := "__init__") (qual := "InvalidRenaming.__init__") (st := i_InvalidRenaming) F_InvalidRenaming) sci_InvalidRenaming rfl (by decide) (by decide) (clx_at X c 3) (noat_ok (x := "InvalidRenaming") (f := "value") (fa_at c 72)) (fun _ => rfl)) (fun _ _ _ _ _ _ us hl => match us, hl with | [_, _], _ => rfl) (fun _ _ _ _ _ _ s0 ws hl ks e => by match ws, hl with | [_], _ => rw [List.append_cancel_right (bs := [("self" : Str)]) (as := ks) (cs := ["value"]) e]; rfl)
theorem t_no_InvalidRenaming_value (X : K.In h) (G : h.Ns mainGlobals mg) (cc : obsF fb fnL K = valD fnL) : PySem.W.findIn K (.ref (He.ga K "InvalidRenaming")) "value" = some none := by
  have c : fb K = true := says_fb cc
  exact noat_ok (x := "InvalidRenaming") (f := "value") (fa_at c 72)
theorem t_e_InvalidSize (X : K.In h) (G : h.Ns mainGlobals mg) (cc : obsF fb fnL K = valD fnL) : ∀ P w base, Exv.Ec P w K mg base "InvalidSize" (He.ga K "InvalidSize") "ValueError.__new__" [.type "ValueError", .type "Exception", .type "BaseException", .type "object"] ["self", "value"] 1 (Exv.mk1 "value") := by
  have c : fb K = true := says_fb cc
  have cf := says_fn cc
  obtain ⟨d_InvalidSize, F_InvalidSize⟩ := cf.def_ 18
  exact fun P w base => ec_of (glo_ok X G (fa_at c 40)) (clx_at X c 4) (in_at c 4) (fun_of (x := "__init__") (qual := "InvalidSize.__init__") (st := i_InvalidSize) F_InvalidSize) (Exv.init1 Exv.bsV (fun_of (x := "__init__") (qual := "InvalidSize.__init__") (st := i_InvalidSize) F_InvalidSize) sci_InvalidSize rfl (by decide) (by decide) (clx_at X c 4) (noat_ok (x := "InvalidSize") (f := "value") (fa_at c 73)) (fun _ => rfl)) (fun _ _ _ _ _ _ us hl => match us, hl with | [_, _], _ => rfl) (fun _ _ _ _ _ _ s0 ws hl ks e => by match ws, hl with | [_], _ => rw [List.append_cancel_right (bs := [("self" : Str)]) (as := ks) (cs := ["value"]) e]; rfl)
theorem t_no_InvalidSize_value (X : K.In h) (G : h.Ns mainGlobals mg) (cc : obsF fb fnL K = valD fnL) : PySem.W.findIn K (.ref (He.ga K "InvalidSize")) "value" = some none := by
  have c : fb K = true := says_fb cc
  exact noat_ok (x := "InvalidSize") (f := "value") (fa_at c 73)
theorem t_e_InvalidLines (X : K.In h) (G : h.Ns mainGlobals mg) (cc : obsF fb fnL K = valD fnL) : ∀ P w base, Exv.Ec P w K mg base "InvalidLines" (He.ga K "InvalidLines") "ValueError.__new__" [.type "ValueError", .type "Exception", .type "BaseException", .type "object"] ["self", "position"] 1 (Exv.mk1 "position") := by
  have c : fb K = true := says_fb cc
  have cf := says_fn cc
  obtain ⟨d_InvalidLines, F_InvalidLines⟩ := cf.def_ 19
  exact fun P w base => ec_of (glo_ok X G (fa_at c 41)) (clx_at X c 5) (in_at c 5) (fun_of (x := "__init__") (qual := "InvalidLines.__init__") (st := i_InvalidLines) F_InvalidLines) (Exv.init1 Exv.bsV (fun_of (x := "__init__") (qual := "InvalidLines.__init__") (st := i_InvalidLines) F_InvalidLines) sci_InvalidLines rfl (by decide) (by decide) (clx_at X c 5) (noat_ok (x := "InvalidLines") (f := "position") (fa_at c 74)) (fun _ => rfl)) (fun _ _ _ _ _ _ us hl => match us, hl with | [_, _], _ => rfl) (fun _ _ _ _ _ _ s0 ws hl ks e => by match ws, hl with | [_], _ => rw [List.append_cancel_right (bs := [("self" : Str)]) (as := ks) (cs := ["position"]) e]; rfl)
theorem t_no_InvalidLines_position (X : K.In h) (G : h.Ns mainGlobals mg) (cc : obsF fb fnL K = valD fnL) : PySem.W.findIn K (.ref (He.ga K "InvalidLines")) "position" = some none := by
  have c : fb K = true := says_fb cc
  exact noat_ok (x := "InvalidLines") (f := "position") (fa_at c 74)
theorem t_e_InvalidSet (X : K.In h) (G : h.Ns mainGlobals mg) (cc : obsF fb fnL K = valD fnL) : ∀ P w base, Exv.Ec P w K mg base "InvalidSet" (He.ga K "InvalidSet") "ValueError.__new__" [.type "ValueError", .type "Exception", .type "BaseException", .type "object"] ["self", "position"] 1 (Exv.mk1 "position") := by
  have c : fb K = true := says_fb cc
  have cf := says_fn cc
  obtain ⟨d_InvalidSet, F_InvalidSet⟩ := cf.def_ 20
  exact fun P w base => ec_of (glo_ok X G (fa_at c 42)) (clx_at X c 6) (in_at c 6) (fun_of (x := "__init__") (qual := "InvalidSet.__init__") (st := i_InvalidSet) F_InvalidSet) (Exv.init1 Exv.bsV (fun_of (x := "__init__") (qual := "InvalidSet.__init__") (st := i_InvalidSet) F_InvalidSet) sci_InvalidSet rfl (by decide) (by decide) (clx_at X c 6) (noat_ok (x := "InvalidSet") (f := "position") (fa_at c 75)) (fun _ => rfl)) (fun _ _ _ _ _ _ us hl => match us, hl with | [_, _], _ => rfl) (fun _ _ _ _ _ _ s0 ws hl ks e => by match ws, hl with | [_], _ => rw [List.append_cancel_right (bs := [("self" : Str)]) (as := ks) (cs := ["position"]) e]; rfl)
theorem t_no_InvalidSet_position (X : K.In h) (G : h.Ns mainGlobals mg) (cc : obsF fb fnL K = valD fnL) : PySem.W.findIn K (.ref (He.ga K "InvalidSet")) "position" = some none := by
  have c : fb K = true := says_fb cc
  exact noat_ok (x := "InvalidSet") (f := "position") (fa_at c 75)
theorem t_e_InvalidChoice (X : K.In h) (G : h.Ns mainGlobals mg) (cc : obsF fb fnL K = valD fnL) : ∀ P w base, Exv.Ec P w K mg base "InvalidChoice" (He.ga K "InvalidChoice") "ValueError.__new__" [.type "ValueError", .type "Exception", .type "BaseException", .type "object"] ["self", "value"] 1 (Exv.mk1 "value") := by
  have c : fb K = true := says_fb cc
  have cf := says_fn cc
  obtain ⟨d_InvalidChoice, F_InvalidChoice⟩ := cf.def_ 21
  exact fun P w base => ec_of (glo_ok X G (fa_at c 43)) (clx_at X c 7) (in_at c 7) (fun_of (x := "__init__") (qual := "InvalidChoice.__init__") (st := i_InvalidChoice) F_InvalidChoice) (Exv.init1 Exv.bsV (fun_of (x := "__init__") (qual := "InvalidChoice.__init__") (st := i_InvalidChoice) F_InvalidChoice) sci_InvalidChoice rfl (by decide) (by decide) (clx_at X c 7) (noat_ok (x := "InvalidChoice") (f := "value") (fa_at c 76)) (fun _ => rfl)) (fun _ _ _ _ _ _ us hl => match us, hl with | [_, _], _ => rfl) (fun _ _ _ _ _ _ s0 ws hl ks e => by match ws, hl with | [_], _ => rw [List.append_cancel_right (bs := [("self" : Str)]) (as := ks) (cs := ["value"]) e]; rfl)
theorem t_no_InvalidChoice_value (X : K.In h) (G : h.Ns mainGlobals mg) (cc : obsF fb fnL K = valD fnL) : PySem.W.findIn K (.ref (He.ga K "InvalidChoice")) "value" = some none := by
  have c : fb K = true := says_fb cc
  exact noat_ok (x := "InvalidChoice") (f := "value") (fa_at c 76)
theorem t_e_InvalidMarks (X : K.In h) (G : h.Ns mainGlobals mg) (cc : obsF fb fnL K = valD fnL) : ∀ P w base, Exv.Ec P w K mg base "InvalidMarks" (He.ga K "InvalidMarks") "ValueError.__new__" [.type "ValueError", .type "Exception", .type "BaseException", .type "object"] ["self", "position"] 1 (Exv.mk1 "position") := by
  have c : fb K = true := says_fb cc
  have cf := says_fn cc
  obtain ⟨d_InvalidMarks, F_InvalidMarks⟩ := cf.def_ 22
  exact fun P w base => ec_of (glo_ok X G (fa_at c 44)) (clx_at X c 8) (in_at c 8) (fun_of (x := "__init__") (qual := "InvalidMarks.__init__") (st := i_InvalidMarks) F_InvalidMarks) (Exv.init1 Exv.bsV (fun_of (x := "__init__") (qual := "InvalidMarks.__init__") (st := i_InvalidMarks) F_InvalidMarks) sci_InvalidMarks rfl (by decide) (by decide) (clx_at X c 8) (noat_ok (x := "InvalidMarks") (f := "position") (fa_at c 77)) (fun _ => rfl)) (fun _ _ _ _ _ _ us hl => match us, hl with | [_, _], _ => rfl) (fun _ _ _ _ _ _ s0 ws hl ks e => by match ws, hl with | [_], _ => rw [List.append_cancel_right (bs := [("self" : Str)]) (as := ks) (cs := ["position"]) e]; rfl)
theorem t_no_InvalidMarks_position (X : K.In h) (G : h.Ns mainGlobals mg) (cc : obsF fb fnL K = valD fnL) : PySem.W.findIn K (.ref (He.ga K "InvalidMarks")) "position" = some none := by
  have c : fb K = true := says_fb cc
  exact noat_ok (x := "InvalidMarks") (f := "position") (fa_at c 77)
theorem t_e_InvalidHeight (X : K.In h) (G : h.Ns mainGlobals mg) (cc : obsF fb fnL K = valD fnL) : ∀ P w base, Exv.Ec P w K mg base "InvalidHeight" (He.ga K "InvalidHeight") "ValueError.__new__" [.type "ValueError", .type "Exception", .type "BaseException", .type "object"] ["self", "value"] 1 (Exv.mk1 "value") := by
  have c : fb K = true := says_fb cc
  have cf := says_fn cc
  obtain ⟨d_InvalidHeight, F_InvalidHeight⟩ := cf.def_ 23
  exact fun P w base => ec_of (glo_ok X G (fa_at c 45)) (clx_at X c 9) (in_at c 9) (fun_of (x := "__init__") (qual := "InvalidHeight.__init__") (st := i_InvalidHeight) F_InvalidHeight) (Exv.init1 Exv.bsV (fun_of (x := "__init__") (qual := "InvalidHeight.__init__") (st := i_InvalidHeight) F_InvalidHeight) sci_InvalidHeight rfl (by decide) (by decide) (clx_at X c 9) (noat_ok (x := "InvalidHeight") (f := "value") (fa_at c 78)) (fun _ => rfl)) (fun _ _ _ _ _ _ us hl => match us, hl with | [_, _], _ => rfl) (fun _ _ _ _ _ _ s0 ws hl ks e => by match ws, hl with | [_], _ => rw [List.append_cancel_right (bs := [("self" : Str)]) (as := ks) (cs := ["value"]) e]; rfl)
theorem t_no_InvalidHeight_value (X : K.In h) (G : h.Ns mainGlobals mg) (cc : obsF fb fnL K = valD fnL) : PySem.W.findIn K (.ref (He.ga K "InvalidHeight")) "value" = some none := by
  have c : fb K = true := says_fb cc
  exact noat_ok (x := "InvalidHeight") (f := "value") (fa_at c 78)
theorem t_e_InvalidPeriod (X : K.In h) (G : h.Ns mainGlobals mg) (cc : obsF fb fnL K = valD fnL) : ∀ P w base, Exv.Ec P w K mg base "InvalidPeriod" (He.ga K "InvalidPeriod") "ValueError.__new__" [.type "ValueError", .type "Exception", .type "BaseException", .type "object"] ["self", "value"] 1 (Exv.mk1 "value") := by
  have c : fb K = true := says_fb cc
  have cf := says_fn cc
  obtain ⟨d_InvalidPeriod, F_InvalidPeriod⟩ := cf.def_ 24
  exact fun P w base => ec_of (glo_ok X G (fa_at c 46)) (clx_at X c 10) (in_at c 10) (fun_of (x := "__init__") (qual := "InvalidPeriod.__init__") (st := i_InvalidPeriod) F_InvalidPeriod) (Exv.init1 Exv.bsV (fun_of (x := "__init__") (qual := "InvalidPeriod.__init__") (st := i_InvalidPeriod) F_InvalidPeriod) sci_InvalidPeriod rfl (by decide) (by decide) (clx_at X c 10) (noat_ok (x := "InvalidPeriod") (f := "value") (fa_at c 79)) (fun _ => rfl)) (fun _ _ _ _ _ _ us hl => match us, hl with | [_, _], _ => rfl) (fun _ _ _ _ _ _ s0 ws hl ks e => by match ws, hl with | [_], _ => rw [List.append_cancel_right (bs := [("self" : Str)]) (as := ks) (cs := ["value"]) e]; rfl)
theorem t_no_InvalidPeriod_value (X : K.In h) (G : h.Ns mainGlobals mg) (cc : obsF fb fnL K = valD fnL) : PySem.W.findIn K (.ref (He.ga K "InvalidPeriod")) "value" = some none := by
  have c : fb K = true := says_fb cc
  exact noat_ok (x := "InvalidPeriod") (f := "value") (fa_at c 79)
theorem t_e_InvalidPartners (X : K.In h) (G : h.Ns mainGlobals mg) (cc : obsF fb fnL K = valD fnL) : ∀ P w base, Exv.Ec P w K mg base "InvalidPartners" (He.ga K "InvalidPartners") "ValueError.__new__" [.type "ValueError", .type "Exception", .type "BaseException", .type "object"] ["self", "value"] 1 (Exv.mk1 "value") := by
  have c : fb K = true := says_fb cc
  have cf := says_fn cc
  obtain ⟨d_InvalidPartners, F_InvalidPartners⟩ := cf.def_ 25
  exact fun P w base => ec_of (glo_ok X G (fa_at c 47)) (clx_at X c 11) (in_at c 11) (fun_of (x := "__init__") (qual := "InvalidPartners.__init__") (st := i_InvalidPartners) F_InvalidPartners) (Exv.init1 Exv.bsV (fun_of (x := "__init__") (qual := "InvalidPartners.__init__") (st := i_InvalidPartners) F_InvalidPartners) sci_InvalidPartners rfl (by decide) (by decide) (clx_at X c 11) (noat_ok (x := "InvalidPartners") (f := "value") (fa_at c 80)) (fun _ => rfl)) (fun _ _ _ _ _ _ us hl => match us, hl with | [_, _], _ => rfl) (fun _ _ _ _ _ _ s0 ws hl ks e => by match ws, hl with | [_], _ => rw [List.append_cancel_right (bs := [("self" : Str)]) (as := ks) (cs := ["value"]) e]; rfl)
theorem t_no_InvalidPartners_value (X : K.In h) (G : h.Ns mainGlobals mg) (cc : obsF fb fnL K = valD fnL) : PySem.W.findIn K (.ref (He.ga K "InvalidPartners")) "value" = some none := by
  have c : fb K = true := says_fb cc
  exact noat_ok (x := "InvalidPartners") (f := "value") (fa_at c 80)
theorem t_e_InvalidColumn (X : K.In h) (G : h.Ns mainGlobals mg) (cc : obsF fb fnL K = valD fnL) : ∀ P w base, Exv.Ec P w K mg base "InvalidColumn" (He.ga K "InvalidColumn") "ValueError.__new__" [.type "ValueError", .type "Exception", .type "BaseException", .type "object"] ["self", "value"] 1 (Exv.mk1 "value") := by
  have c : fb K = true := says_fb cc
  have cf := says_fn cc
  obtain ⟨d_InvalidColumn, F_InvalidColumn⟩ := cf.def_ 26
  exact fun P w base => ec_of (glo_ok X G (fa_at c 48)) (clx_at X c 12) (in_at c 12) (fun_of (x := "__init__") (qual := "InvalidColumn.__init__") (st := i_InvalidColumn) F_InvalidColumn) (Exv.init1 Exv.bsV (fun_of (x := "__init__") (qual := "InvalidColumn.__init__") (st := i_InvalidColumn) F_InvalidColumn) sci_InvalidColumn rfl (by decide) (by decide) (clx_at X c 12) (noat_ok (x := "InvalidColumn") (f := "value") (fa_at c 81)) (fun _ => rfl)) (fun _ _ _ _ _ _ us hl => match us, hl with | [_, _], _ => rfl) (fun _ _ _ _ _ _ s0 ws hl ks e => by match ws, hl with | [_], _ => rw [List.append_cancel_right (bs := [("self" : Str)]) (as := ks) (cs := ["value"]) e]; rfl)
theorem t_no_InvalidColumn_value (X : K.In h) (G : h.Ns mainGlobals mg) (cc : obsF fb fnL K = valD fnL) : PySem.W.findIn K (.ref (He.ga K "InvalidColumn")) "value" = some none := by
  have c : fb K = true := says_fb cc
  exact noat_ok (x := "InvalidColumn") (f := "value") (fa_at c 81)
theorem t_e_InvalidState (X : K.In h) (G : h.Ns mainGlobals mg) (cc : obsF fb fnL K = valD fnL) : ∀ P w base, Exv.Ec P w K mg base "InvalidState" (He.ga K "InvalidState") "ValueError.__new__" [.type "ValueError", .type "Exception", .type "BaseException", .type "object"] ["self", "value"] 1 (Exv.mk1 "value") := by
  have c : fb K = true := says_fb cc
  have cf := says_fn cc
  obtain ⟨d_InvalidState, F_InvalidState⟩ := cf.def_ 27
  exact fun P w base => ec_of (glo_ok X G (fa_at c 49)) (clx_at X c 13) (in_at c 13) (fun_of (x := "__init__") (qual := "InvalidState.__init__") (st := i_InvalidState) F_InvalidState) (Exv.init1 Exv.bsV (fun_of (x := "__init__") (qual := "InvalidState.__init__") (st := i_InvalidState) F_InvalidState) sci_InvalidState rfl (by decide) (by decide) (clx_at X c 13) (noat_ok (x := "InvalidState") (f := "value") (fa_at c 82)) (fun _ => rfl)) (fun _ _ _ _ _ _ us hl => match us, hl with | [_, _], _ => rfl) (fun _ _ _ _ _ _ s0 ws hl ks e => by match ws, hl with | [_], _ => rw [List.append_cancel_right (bs := [("self" : Str)]) (as := ks) (cs := ["value"]) e]; rfl)
theorem t_no_InvalidState_value (X : K.In h) (G : h.Ns mainGlobals mg) (cc : obsF fb fnL K = valD fnL) : PySem.W.findIn K (.ref (He.ga K "InvalidState")) "value" = some none := by
  have c : fb K = true := says_fb cc
  exact noat_ok (x := "InvalidState") (f := "value") (fa_at c 82)
theorem t_e_InvalidLength (X : K.In h) (G : h.Ns mainGlobals mg) (cc : obsF fb fnL K = valD fnL) : ∀ P w base, Exv.Ec P w K mg base "InvalidLength" (He.ga K "InvalidLength") "ValueError.__new__" [.type "ValueError", .type "Exception", .type "BaseException", .type "object"] ["self", "value"] 1 (Exv.mk1 "value") := by
  have c : fb K = true := says_fb cc
  have cf := says_fn cc
  obtain ⟨d_InvalidLength, F_InvalidLength⟩ := cf.def_ 28
  exact fun P w base => ec_of (glo_ok X G (fa_at c 50)) (clx_at X c 14) (in_at c 14) (fun_of (x := "__init__") (qual := "InvalidLength.__init__") (st := i_InvalidLength) F_InvalidLength) (Exv.init1 Exv.bsV (fun_of (x := "__init__") (qual := "InvalidLength.__init__") (st := i_InvalidLength) F_InvalidLength) sci_InvalidLength rfl (by decide) (by decide) (clx_at X c 14) (noat_ok (x := "InvalidLength") (f := "value") (fa_at c 83)) (fun _ => rfl)) (fun _ _ _ _ _ _ us hl => match us, hl with | [_, _], _ => rfl) (fun _ _ _ _ _ _ s0 ws hl ks e => by match ws, hl with | [_], _ => rw [List.append_cancel_right (bs := [("self" : Str)]) (as := ks) (cs := ["value"]) e]; rfl)
theorem t_no_InvalidLength_value (X : K.In h) (G : h.Ns mainGlobals mg) (cc : obsF fb fnL K = valD fnL) : PySem.W.findIn K (.ref (He.ga K "InvalidLength")) "value" = some none := by
  have c : fb K = true := says_fb cc
  exact noat_ok (x := "InvalidLength") (f := "value") (fa_at c 83)
theorem t_e_InvalidText (X : K.In h) (G : h.Ns mainGlobals mg) (cc : obsF fb fnL K = valD fnL) : ∀ P w base, Exv.Ec P w K mg base "InvalidText" (He.ga K "InvalidText") "ValueError.__new__" [.type "ValueError", .type "Exception", .type "BaseException", .type "object"] ["self", "line"] 1 (Exv.mk1 "line") := by
  have c : fb K = true := says_fb cc
  have cf := says_fn cc
  obtain ⟨d_InvalidText, F_InvalidText⟩ := cf.def_ 29
  exact fun P w base => ec_of (glo_ok X G (fa_at c 51)) (clx_at X c 15) (in_at c 15) (fun_of (x := "__init__") (qual := "InvalidText.__init__") (st := i_InvalidText) F_InvalidText) (Exv.init1 Exv.bsV (fun_of (x := "__init__") (qual := "InvalidText.__init__") (st := i_InvalidText) F_InvalidText) sci_InvalidText rfl (by decide) (by decide) (clx_at X c 15) (noat_ok (x := "InvalidText") (f := "line") (fa_at c 84)) (fun _ => rfl)) (fun _ _ _ _ _ _ us hl => match us, hl with | [_, _], _ => rfl) (fun _ _ _ _ _ _ s0 ws hl ks e => by match ws, hl with | [_], _ => rw [List.append_cancel_right (bs := [("self" : Str)]) (as := ks) (cs := ["line"]) e]; rfl)
theorem t_no_InvalidText_line (X : K.In h) (G : h.Ns mainGlobals mg) (cc : obsF fb fnL K = valD fnL) : PySem.W.findIn K (.ref (He.ga K "InvalidText")) "line" = some none := by
  have c : fb K = true := says_fb cc
  exact noat_ok (x := "InvalidText") (f := "line") (fa_at c 84)
theorem t_e_InvalidClaim (X : K.In h) (G : h.Ns mainGlobals mg) (cc : obsF fb fnL K = valD fnL) : ∀ P w base, Exv.Ec P w K mg base "InvalidClaim" (He.ga K "InvalidClaim") "ValueError.__new__" [.type "ValueError", .type "Exception", .type "BaseException", .type "object"] ["self", "value"] 1 (Exv.mk1 "value") := by
  have c : fb K = true := says_fb cc
  have cf := says_fn cc
  obtain ⟨d_InvalidClaim, F_InvalidClaim⟩ := cf.def_ 30
  exact fun P w base => ec_of (glo_ok X G (fa_at c 52)) (clx_at X c 16) (in_at c 16) (fun_of (x := "__init__") (qual := "InvalidClaim.__init__") (st := i_InvalidClaim) F_InvalidClaim) (Exv.init1 Exv.bsV (fun_of (x := "__init__") (qual := "InvalidClaim.__init__") (st := i_InvalidClaim) F_InvalidClaim) sci_InvalidClaim rfl (by decide) (by decide) (clx_at X c 16) (noat_ok (x := "InvalidClaim") (f := "value") (fa_at c 85)) (fun _ => rfl)) (fun _ _ _ _ _ _ us hl => match us, hl with | [_, _], _ => rfl) (fun _ _ _ _ _ _ s0 ws hl ks e => by match ws, hl with | [_], _ => rw [List.append_cancel_right (bs := [("self" : Str)]) (as := ks) (cs := ["value"]) e]; rfl)
theorem t_no_InvalidClaim_value (X : K.In h) (G : h.Ns mainGlobals mg) (cc : obsF fb fnL K = valD fnL) : PySem.W.findIn K (.ref (He.ga K "InvalidClaim")) "value" = some none := by
  have c : fb K = true := says_fb cc
  exact noat_ok (x := "InvalidClaim") (f := "value") (fa_at c 85)
theorem t_e_InvalidWay (X : K.In h) (G : h.Ns mainGlobals mg) (cc : obsF fb fnL K = valD fnL) : ∀ P w base, Exv.Ec P w K mg base "InvalidWay" (He.ga K "InvalidWay") "ValueError.__new__" [.type "ValueError", .type "Exception", .type "BaseException", .type "object"] ["self", "value"] 1 (Exv.mk1 "value") := by
  have c : fb K = true := says_fb cc
  have cf := says_fn cc
  obtain ⟨d_InvalidWay, F_InvalidWay⟩ := cf.def_ 31
  exact fun P w base => ec_of (glo_ok X G (fa_at c 53)) (clx_at X c 17) (in_at c 17) (fun_of (x := "__init__") (qual := "InvalidWay.__init__") (st := i_InvalidWay) F_InvalidWay) (Exv.init1 Exv.bsV (fun_of (x := "__init__") (qual := "InvalidWay.__init__") (st := i_InvalidWay) F_InvalidWay) sci_InvalidWay rfl (by decide) (by decide) (clx_at X c 17) (noat_ok (x := "InvalidWay") (f := "value") (fa_at c 86)) (fun _ => rfl)) (fun _ _ _ _ _ _ us hl => match us, hl with | [_, _], _ => rfl) (fun _ _ _ _ _ _ s0 ws hl ks e => by match ws, hl with | [_], _ => rw [List.append_cancel_right (bs := [("self" : Str)]) (as := ks) (cs := ["value"]) e]; rfl)
theorem t_no_InvalidWay_value (X : K.In h) (G : h.Ns mainGlobals mg) (cc : obsF fb fnL K = valD fnL) : PySem.W.findIn K (.ref (He.ga K "InvalidWay")) "value" = some none := by
  have c : fb K = true := says_fb cc
  exact noat_ok (x := "InvalidWay") (f := "value") (fa_at c 86)
theorem t_e_InvalidCommand (X : K.In h) (G : h.Ns mainGlobals mg) (cc : obsF fb fnL K = valD fnL) : ∀ P w base, Exv.Ec P w K mg base "InvalidCommand" (He.ga K "InvalidCommand") "ValueError.__new__" [.type "ValueError", .type "Exception", .type "BaseException", .type "object"] ["self", "value"] 1 (Exv.mk1 "value") := by
  have c : fb K = true := says_fb cc
  have cf := says_fn cc
  obtain ⟨d_InvalidCommand, F_InvalidCommand⟩ := cf.def_ 32
  exact fun P w base => ec_of (glo_ok X G (fa_at c 54)) (clx_at X c 18) (in_at c 18) (fun_of (x := "__init__") (qual := "InvalidCommand.__init__") (st := i_InvalidCommand) F_InvalidCommand) (Exv.init1 Exv.bsV (fun_of (x := "__init__") (qual := "InvalidCommand.__init__") (st := i_InvalidCommand) F_InvalidCommand) sci_InvalidCommand rfl (by decide) (by decide) (clx_at X c 18) (noat_ok (x := "InvalidCommand") (f := "value") (fa_at c 87)) (fun _ => rfl)) (fun _ _ _ _ _ _ us hl => match us, hl with | [_, _], _ => rfl) (fun _ _ _ _ _ _ s0 ws hl ks e => by match ws, hl with | [_], _ => rw [List.append_cancel_right (bs := [("self" : Str)]) (as := ks) (cs := ["value"]) e]; rfl)
theorem t_no_InvalidCommand_value (X : K.In h) (G : h.Ns mainGlobals mg) (cc : obsF fb fnL K = valD fnL) : PySem.W.findIn K (.ref (He.ga K "InvalidCommand")) "value" = some none := by
  have c : fb K = true := says_fb cc
  exact noat_ok (x := "InvalidCommand") (f := "value") (fa_at c 87)
theorem t_e_UnknownName (X : K.In h) (G : h.Ns mainGlobals mg) (cc : obsF fb fnL K = valD fnL) : ∀ P w base, Exv.Ec P w K mg base "UnknownName" (He.ga K "UnknownName") "LookupError.__new__" [.type "LookupError", .type "Exception", .type "BaseException", .type "object"] ["self", "value"] 1 (Exv.mk1 "value") := by
  have c : fb K = true := says_fb cc
  have cf := says_fn cc
  obtain ⟨d_UnknownName, F_UnknownName⟩ := cf.def_ 33
  exact fun P w base => ec_of (glo_ok X G (fa_at c 55)) (clx_at X c 19) (in_at c 19) (fun_of (x := "__init__") (qual := "UnknownName.__init__") (st := i_UnknownName) F_UnknownName) (Exv.init1 Exv.bsL (fun_of (x := "__init__") (qual := "UnknownName.__init__") (st := i_UnknownName) F_UnknownName) sci_UnknownName rfl (by decide) (by decide) (clx_at X c 19) (noat_ok (x := "UnknownName") (f := "value") (fa_at c 88)) (fun _ => rfl)) (fun _ _ _ _ _ _ us hl => match us, hl with | [_, _], _ => rfl) (fun _ _ _ _ _ _ s0 ws hl ks e => by match ws, hl with | [_], _ => rw [List.append_cancel_right (bs := [("self" : Str)]) (as := ks) (cs := ["value"]) e]; rfl)
theorem t_no_UnknownName_value (X : K.In h) (G : h.Ns mainGlobals mg) (cc : obsF fb fnL K = valD fnL) : PySem.W.findIn K (.ref (He.ga K "UnknownName")) "value" = some none := by
  have c : fb K = true := says_fb cc
  exact noat_ok (x := "UnknownName") (f := "value") (fa_at c 88)
theorem t_e_UnknownKind (X : K.In h) (G : h.Ns mainGlobals mg) (cc : obsF fb fnL K = valD fnL) : ∀ P w base, Exv.Ec P w K mg base "UnknownKind" (He.ga K "UnknownKind") "LookupError.__new__" [.type "LookupError", .type "Exception", .type "BaseException", .type "object"] ["self", "value"] 1 (Exv.mk1 "value") := by
  have c : fb K = true := says_fb cc
  have cf := says_fn cc
  obtain ⟨d_UnknownKind, F_UnknownKind⟩ := cf.def_ 34
  exact fun P w base => ec_of (glo_ok X G (fa_at c 56)) (clx_at X c 20) (in_at c 20) (fun_of (x := "__init__") (qual := "UnknownKind.__init__") (st := i_UnknownKind) F_UnknownKind) (Exv.init1 Exv.bsL (fun_of (x := "__init__") (qual := "UnknownKind.__init__") (st := i_UnknownKind) F_UnknownKind) sci_UnknownKind rfl (by decide) (by decide) (clx_at X c 20) (noat_ok (x := "UnknownKind") (f := "value") (fa_at c 89)) (fun _ => rfl)) (fun _ _ _ _ _ _ us hl => match us, hl with | [_, _], _ => rfl) (fun _ _ _ _ _ _ s0 ws hl ks e => by match ws, hl with | [_], _ => rw [List.append_cancel_right (bs := [("self" : Str)]) (as := ks) (cs := ["value"]) e]; rfl)
theorem t_no_UnknownKind_value (X : K.In h) (G : h.Ns mainGlobals mg) (cc : obsF fb fnL K = valD fnL) : PySem.W.findIn K (.ref (He.ga K "UnknownKind")) "value" = some none := by
  have c : fb K = true := says_fb cc
  exact noat_ok (x := "UnknownKind") (f := "value") (fa_at c 89)
theorem t_e_UnknownCell (X : K.In h) (G : h.Ns mainGlobals mg) (cc : obsF fb fnL K = valD fnL) : ∀ P w base, Exv.Ec P w K mg base "UnknownCell" (He.ga K "UnknownCell") "LookupError.__new__" [.type "LookupError", .type "Exception", .type "BaseException", .type "object"] ["self", "value"] 1 (Exv.mk1 "value") := by
  have c : fb K = true := says_fb cc
  have cf := says_fn cc
  obtain ⟨d_UnknownCell, F_UnknownCell⟩ := cf.def_ 35
  exact fun P w base => ec_of (glo_ok X G (fa_at c 57)) (clx_at X c 21) (in_at c 21) (fun_of (x := "__init__") (qual := "UnknownCell.__init__") (st := i_UnknownCell) F_UnknownCell) (Exv.init1 Exv.bsL (fun_of (x := "__init__") (qual := "UnknownCell.__init__") (st := i_UnknownCell) F_UnknownCell) sci_UnknownCell rfl (by decide) (by decide) (clx_at X c 21) (noat_ok (x := "UnknownCell") (f := "value") (fa_at c 90)) (fun _ => rfl)) (fun _ _ _ _ _ _ us hl => match us, hl with | [_, _], _ => rfl) (fun _ _ _ _ _ _ s0 ws hl ks e => by match ws, hl with | [_], _ => rw [List.append_cancel_right (bs := [("self" : Str)]) (as := ks) (cs := ["value"]) e]; rfl)
theorem t_no_UnknownCell_value (X : K.In h) (G : h.Ns mainGlobals mg) (cc : obsF fb fnL K = valD fnL) : PySem.W.findIn K (.ref (He.ga K "UnknownCell")) "value" = some none := by
  have c : fb K = true := says_fb cc
  exact noat_ok (x := "UnknownCell") (f := "value") (fa_at c 90)
theorem t_e_UnknownLine (X : K.In h) (G : h.Ns mainGlobals mg) (cc : obsF fb fnL K = valD fnL) : ∀ P w base, Exv.Ec P w K mg base "UnknownLine" (He.ga K "UnknownLine") "LookupError.__new__" [.type "LookupError", .type "Exception", .type "BaseException", .type "object"] ["self", "value"] 1 (Exv.mk1 "value") := by
  have c : fb K = true := says_fb cc
  have cf := says_fn cc
  obtain ⟨d_UnknownLine, F_UnknownLine⟩ := cf.def_ 36
  exact fun P w base => ec_of (glo_ok X G (fa_at c 58)) (clx_at X c 22) (in_at c 22) (fun_of (x := "__init__") (qual := "UnknownLine.__init__") (st := i_UnknownLine) F_UnknownLine) (Exv.init1 Exv.bsL (fun_of (x := "__init__") (qual := "UnknownLine.__init__") (st := i_UnknownLine) F_UnknownLine) sci_UnknownLine rfl (by decide) (by decide) (clx_at X c 22) (noat_ok (x := "UnknownLine") (f := "value") (fa_at c 91)) (fun _ => rfl)) (fun _ _ _ _ _ _ us hl => match us, hl with | [_, _], _ => rfl) (fun _ _ _ _ _ _ s0 ws hl ks e => by match ws, hl with | [_], _ => rw [List.append_cancel_right (bs := [("self" : Str)]) (as := ks) (cs := ["value"]) e]; rfl)
theorem t_no_UnknownLine_value (X : K.In h) (G : h.Ns mainGlobals mg) (cc : obsF fb fnL K = valD fnL) : PySem.W.findIn K (.ref (He.ga K "UnknownLine")) "value" = some none := by
  have c : fb K = true := says_fb cc
  exact noat_ok (x := "UnknownLine") (f := "value") (fa_at c 91)
theorem t_e_KindTaken (X : K.In h) (G : h.Ns mainGlobals mg) (cc : obsF fb fnL K = valD fnL) : ∀ P w base, Exv.Ec P w K mg base "KindTaken" (He.ga K "KindTaken") "RuntimeError.__new__" [.type "RuntimeError", .type "Exception", .type "BaseException", .type "object"] ["self", "value"] 1 (Exv.mk1 "value") := by
  have c : fb K = true := says_fb cc
  have cf := says_fn cc
  obtain ⟨d_KindTaken, F_KindTaken⟩ := cf.def_ 37
  exact fun P w base => ec_of (glo_ok X G (fa_at c 59)) (clx_at X c 23) (in_at c 23) (fun_of (x := "__init__") (qual := "KindTaken.__init__") (st := i_KindTaken) F_KindTaken) (Exv.init1 Exv.bsR (fun_of (x := "__init__") (qual := "KindTaken.__init__") (st := i_KindTaken) F_KindTaken) sci_KindTaken rfl (by decide) (by decide) (clx_at X c 23) (noat_ok (x := "KindTaken") (f := "value") (fa_at c 92)) (fun _ => rfl)) (fun _ _ _ _ _ _ us hl => match us, hl with | [_, _], _ => rfl) (fun _ _ _ _ _ _ s0 ws hl ks e => by match ws, hl with | [_], _ => rw [List.append_cancel_right (bs := [("self" : Str)]) (as := ks) (cs := ["value"]) e]; rfl)
theorem t_no_KindTaken_value (X : K.In h) (G : h.Ns mainGlobals mg) (cc : obsF fb fnL K = valD fnL) : PySem.W.findIn K (.ref (He.ga K "KindTaken")) "value" = some none := by
  have c : fb K = true := says_fb cc
  exact noat_ok (x := "KindTaken") (f := "value") (fa_at c 92)
theorem t_e_SameKinds (X : K.In h) (G : h.Ns mainGlobals mg) (cc : obsF fb fnL K = valD fnL) : ∀ P w base, Exv.Ec P w K mg base "SameKinds" (He.ga K "SameKinds") "RuntimeError.__new__" [.type "RuntimeError", .type "Exception", .type "BaseException", .type "object"] ["self", "one", "other"] 2 (Exv.mk2 "one" "other") := by
  have c : fb K = true := says_fb cc
  have cf := says_fn cc
  obtain ⟨d_SameKinds, F_SameKinds⟩ := cf.def_ 38
  exact fun P w base => ec_of (glo_ok X G (fa_at c 60)) (clx_at X c 24) (in_at c 24) (fun_of (x := "__init__") (qual := "SameKinds.__init__") (st := i_SameKinds) F_SameKinds) (Exv.init2 Exv.bsR (fun_of (x := "__init__") (qual := "SameKinds.__init__") (st := i_SameKinds) F_SameKinds) sci_SameKinds rfl (by decide) (by decide) (by decide) (by decide) (clx_at X c 24) (noat_ok (x := "SameKinds") (f := "one") (fa_at c 93)) (noat_ok (x := "SameKinds") (f := "other") (fa_at c 94)) (fun _ => rfl) (fun _ => rfl)) (fun _ _ _ _ _ _ us hl => match us, hl with | [_, _, _], _ => rfl) (fun _ _ _ _ _ _ s0 ws hl ks e => by match ws, hl with | [_, _], _ => rw [List.append_cancel_right (bs := [("self" : Str)]) (as := ks) (cs := ["other", "one"]) e]; rfl)
theorem t_no_SameKinds_one (X : K.In h) (G : h.Ns mainGlobals mg) (cc : obsF fb fnL K = valD fnL) : PySem.W.findIn K (.ref (He.ga K "SameKinds")) "one" = some none := by
  have c : fb K = true := says_fb cc
  exact noat_ok (x := "SameKinds") (f := "one") (fa_at c 93)
theorem t_no_SameKinds_other (X : K.In h) (G : h.Ns mainGlobals mg) (cc : obsF fb fnL K = valD fnL) : PySem.W.findIn K (.ref (He.ga K "SameKinds")) "other" = some none := by
  have c : fb K = true := says_fb cc
  exact noat_ok (x := "SameKinds") (f := "other") (fa_at c 94)
theorem t_e_NotFlat (X : K.In h) (G : h.Ns mainGlobals mg) (cc : obsF fb fnL K = valD fnL) : ∀ P w base, Exv.Ec P w K mg base "NotFlat" (He.ga K "NotFlat") "RuntimeError.__new__" [.type "RuntimeError", .type "Exception", .type "BaseException", .type "object"] ["self", "value"] 1 (Exv.mk1 "value") := by
  have c : fb K = true := says_fb cc
  have cf := says_fn cc
  obtain ⟨d_NotFlat, F_NotFlat⟩ := cf.def_ 39
  exact fun P w base => ec_of (glo_ok X G (fa_at c 61)) (clx_at X c 25) (in_at c 25) (fun_of (x := "__init__") (qual := "NotFlat.__init__") (st := i_NotFlat) F_NotFlat) (Exv.init1 Exv.bsR (fun_of (x := "__init__") (qual := "NotFlat.__init__") (st := i_NotFlat) F_NotFlat) sci_NotFlat rfl (by decide) (by decide) (clx_at X c 25) (noat_ok (x := "NotFlat") (f := "value") (fa_at c 95)) (fun _ => rfl)) (fun _ _ _ _ _ _ us hl => match us, hl with | [_, _], _ => rfl) (fun _ _ _ _ _ _ s0 ws hl ks e => by match ws, hl with | [_], _ => rw [List.append_cancel_right (bs := [("self" : Str)]) (as := ks) (cs := ["value"]) e]; rfl)
theorem t_no_NotFlat_value (X : K.In h) (G : h.Ns mainGlobals mg) (cc : obsF fb fnL K = valD fnL) : PySem.W.findIn K (.ref (He.ga K "NotFlat")) "value" = some none := by
  have c : fb K = true := says_fb cc
  exact noat_ok (x := "NotFlat") (f := "value") (fa_at c 95)
theorem t_e_OtherPiece (X : K.In h) (G : h.Ns mainGlobals mg) (cc : obsF fb fnL K = valD fnL) : ∀ P w base, Exv.Ec P w K mg base "OtherPiece" (He.ga K "OtherPiece") "RuntimeError.__new__" [.type "RuntimeError", .type "Exception", .type "BaseException", .type "object"] ["self", "one", "other"] 2 (Exv.mk2 "one" "other") := by
  have c : fb K = true := says_fb cc
  have cf := says_fn cc
  obtain ⟨d_OtherPiece, F_OtherPiece⟩ := cf.def_ 40
  exact fun P w base => ec_of (glo_ok X G (fa_at c 62)) (clx_at X c 26) (in_at c 26) (fun_of (x := "__init__") (qual := "OtherPiece.__init__") (st := i_OtherPiece) F_OtherPiece) (Exv.init2 Exv.bsR (fun_of (x := "__init__") (qual := "OtherPiece.__init__") (st := i_OtherPiece) F_OtherPiece) sci_OtherPiece rfl (by decide) (by decide) (by decide) (by decide) (clx_at X c 26) (noat_ok (x := "OtherPiece") (f := "one") (fa_at c 96)) (noat_ok (x := "OtherPiece") (f := "other") (fa_at c 97)) (fun _ => rfl) (fun _ => rfl)) (fun _ _ _ _ _ _ us hl => match us, hl with | [_, _, _], _ => rfl) (fun _ _ _ _ _ _ s0 ws hl ks e => by match ws, hl with | [_, _], _ => rw [List.append_cancel_right (bs := [("self" : Str)]) (as := ks) (cs := ["other", "one"]) e]; rfl)
theorem t_no_OtherPiece_one (X : K.In h) (G : h.Ns mainGlobals mg) (cc : obsF fb fnL K = valD fnL) : PySem.W.findIn K (.ref (He.ga K "OtherPiece")) "one" = some none := by
  have c : fb K = true := says_fb cc
  exact noat_ok (x := "OtherPiece") (f := "one") (fa_at c 96)
theorem t_no_OtherPiece_other (X : K.In h) (G : h.Ns mainGlobals mg) (cc : obsF fb fnL K = valD fnL) : PySem.W.findIn K (.ref (He.ga K "OtherPiece")) "other" = some none := by
  have c : fb K = true := says_fb cc
  exact noat_ok (x := "OtherPiece") (f := "other") (fa_at c 97)
theorem t_e_Marked (X : K.In h) (G : h.Ns mainGlobals mg) (cc : obsF fb fnL K = valD fnL) : ∀ P w base, Exv.Ec P w K mg base "Marked" (He.ga K "Marked") "RuntimeError.__new__" [.type "RuntimeError", .type "Exception", .type "BaseException", .type "object"] ["self", "value"] 1 (Exv.mk1 "value") := by
  have c : fb K = true := says_fb cc
  have cf := says_fn cc
  obtain ⟨d_Marked, F_Marked⟩ := cf.def_ 41
  exact fun P w base => ec_of (glo_ok X G (fa_at c 63)) (clx_at X c 27) (in_at c 27) (fun_of (x := "__init__") (qual := "Marked.__init__") (st := i_Marked) F_Marked) (Exv.init1 Exv.bsR (fun_of (x := "__init__") (qual := "Marked.__init__") (st := i_Marked) F_Marked) sci_Marked rfl (by decide) (by decide) (clx_at X c 27) (noat_ok (x := "Marked") (f := "value") (fa_at c 98)) (fun _ => rfl)) (fun _ _ _ _ _ _ us hl => match us, hl with | [_, _], _ => rfl) (fun _ _ _ _ _ _ s0 ws hl ks e => by match ws, hl with | [_], _ => rw [List.append_cancel_right (bs := [("self" : Str)]) (as := ks) (cs := ["value"]) e]; rfl)
theorem t_no_Marked_value (X : K.In h) (G : h.Ns mainGlobals mg) (cc : obsF fb fnL K = valD fnL) : PySem.W.findIn K (.ref (He.ga K "Marked")) "value" = some none := by
  have c : fb K = true := says_fb cc
  exact noat_ok (x := "Marked") (f := "value") (fa_at c 98)
theorem t_e_WrongTurn (X : K.In h) (G : h.Ns mainGlobals mg) (cc : obsF fb fnL K = valD fnL) : ∀ P w base, Exv.Ec P w K mg base "WrongTurn" (He.ga K "WrongTurn") "RuntimeError.__new__" [.type "RuntimeError", .type "Exception", .type "BaseException", .type "object"] ["self", "value"] 1 (Exv.mk1 "value") := by
  have c : fb K = true := says_fb cc
  have cf := says_fn cc
  obtain ⟨d_WrongTurn, F_WrongTurn⟩ := cf.def_ 42
  exact fun P w base => ec_of (glo_ok X G (fa_at c 64)) (clx_at X c 28) (in_at c 28) (fun_of (x := "__init__") (qual := "WrongTurn.__init__") (st := i_WrongTurn) F_WrongTurn) (Exv.init1 Exv.bsR (fun_of (x := "__init__") (qual := "WrongTurn.__init__") (st := i_WrongTurn) F_WrongTurn) sci_WrongTurn rfl (by decide) (by decide) (clx_at X c 28) (noat_ok (x := "WrongTurn") (f := "value") (fa_at c 99)) (fun _ => rfl)) (fun _ _ _ _ _ _ us hl => match us, hl with | [_, _], _ => rfl) (fun _ _ _ _ _ _ s0 ws hl ks e => by match ws, hl with | [_], _ => rw [List.append_cancel_right (bs := [("self" : Str)]) (as := ks) (cs := ["value"]) e]; rfl)
theorem t_no_WrongTurn_value (X : K.In h) (G : h.Ns mainGlobals mg) (cc : obsF fb fnL K = valD fnL) : PySem.W.findIn K (.ref (He.ga K "WrongTurn")) "value" = some none := by
  have c : fb K = true := says_fb cc
  exact noat_ok (x := "WrongTurn") (f := "value") (fa_at c 99)
theorem t_e_NoAnswer (X : K.In h) (G : h.Ns mainGlobals mg) (cc : obsF fb fnL K = valD fnL) : ∀ P w base, Exv.Ec P w K mg base "NoAnswer" (He.ga K "NoAnswer") "RuntimeError.__new__" [.type "RuntimeError", .type "Exception", .type "BaseException", .type "object"] ["self"] 0 Exv.mk0 := by
  have c : fb K = true := says_fb cc
  have cf := says_fn cc
  obtain ⟨d_NoAnswer, F_NoAnswer⟩ := cf.def_ 43
  exact fun P w base => ec_of (glo_ok X G (fa_at c 65)) (clx_at X c 29) (in_at c 29) (fun_of (x := "__init__") (qual := "NoAnswer.__init__") (st := i_NoAnswer) F_NoAnswer) (Exv.init0 (fun_of (x := "__init__") (qual := "NoAnswer.__init__") (st := i_NoAnswer) F_NoAnswer) sci_NoAnswer rfl) (fun _ _ _ _ _ _ us hl => match us, hl with | [_], _ => rfl) (fun _ _ _ _ _ _ s0 ws hl ks e => by match ws, hl with | [], _ => rw [List.append_cancel_right (bs := [("self" : Str)]) (as := ks) (cs := []) e]; rfl)
theorem t_e_NothingToUndo (X : K.In h) (G : h.Ns mainGlobals mg) (cc : obsF fb fnL K = valD fnL) : ∀ P w base, Exv.Ec P w K mg base "NothingToUndo" (He.ga K "NothingToUndo") "RuntimeError.__new__" [.type "RuntimeError", .type "Exception", .type "BaseException", .type "object"] ["self"] 0 Exv.mk0 := by
  have c : fb K = true := says_fb cc
  have cf := says_fn cc
  obtain ⟨d_NothingToUndo, F_NothingToUndo⟩ := cf.def_ 44
  exact fun P w base => ec_of (glo_ok X G (fa_at c 66)) (clx_at X c 30) (in_at c 30) (fun_of (x := "__init__") (qual := "NothingToUndo.__init__") (st := i_NothingToUndo) F_NothingToUndo) (Exv.init0 (fun_of (x := "__init__") (qual := "NothingToUndo.__init__") (st := i_NothingToUndo) F_NothingToUndo) sci_NothingToUndo rfl) (fun _ _ _ _ _ _ us hl => match us, hl with | [_], _ => rfl) (fun _ _ _ _ _ _ s0 ws hl ks e => by match ws, hl with | [], _ => rw [List.append_cancel_right (bs := [("self" : Str)]) (as := ks) (cs := []) e]; rfl)
theorem t_e_CommandFailed (X : K.In h) (G : h.Ns mainGlobals mg) (cc : obsF fb fnL K = valD fnL) : ∀ P w base, Exv.Ec P w K mg base "CommandFailed" (He.ga K "CommandFailed") "RuntimeError.__new__" [.type "RuntimeError", .type "Exception", .type "BaseException", .type "object"] ["self", "position"] 1 (Exv.mk1 "position") := by
  have c : fb K = true := says_fb cc
  have cf := says_fn cc
  obtain ⟨d_CommandFailed, F_CommandFailed⟩ := cf.def_ 45
  exact fun P w base => ec_of (glo_ok X G (fa_at c 67)) (clx_at X c 31) (in_at c 31) (fun_of (x := "__init__") (qual := "CommandFailed.__init__") (st := i_CommandFailed) F_CommandFailed) (Exv.init1 Exv.bsR (fun_of (x := "__init__") (qual := "CommandFailed.__init__") (st := i_CommandFailed) F_CommandFailed) sci_CommandFailed rfl (by decide) (by decide) (clx_at X c 31) (noat_ok (x := "CommandFailed") (f := "position") (fa_at c 100)) (fun _ => rfl)) (fun _ _ _ _ _ _ us hl => match us, hl with | [_, _], _ => rfl) (fun _ _ _ _ _ _ s0 ws hl ks e => by match ws, hl with | [_], _ => rw [List.append_cancel_right (bs := [("self" : Str)]) (as := ks) (cs := ["position"]) e]; rfl)
theorem t_no_CommandFailed_position (X : K.In h) (G : h.Ns mainGlobals mg) (cc : obsF fb fnL K = valD fnL) : PySem.W.findIn K (.ref (He.ga K "CommandFailed")) "position" = some none := by
  have c : fb K = true := says_fb cc
  exact noat_ok (x := "CommandFailed") (f := "position") (fa_at c 100)
theorem t_e_TooMany (X : K.In h) (G : h.Ns mainGlobals mg) (cc : obsF fb fnL K = valD fnL) : ∀ P w base, Exv.Ec P w K mg base "TooMany" (He.ga K "TooMany") "ArithmeticError.__new__" [.type "ArithmeticError", .type "Exception", .type "BaseException", .type "object"] ["self", "what", "limit"] 2 (Exv.mk2 "what" "limit") := by
  have c : fb K = true := says_fb cc
  have cf := says_fn cc
  obtain ⟨d_TooMany, F_TooMany⟩ := cf.def_ 46
  exact fun P w base => ec_of (glo_ok X G (fa_at c 68)) (clx_at X c 32) (in_at c 32) (fun_of (x := "__init__") (qual := "TooMany.__init__") (st := i_TooMany) F_TooMany) (Exv.init2 Exv.bsA (fun_of (x := "__init__") (qual := "TooMany.__init__") (st := i_TooMany) F_TooMany) sci_TooMany rfl (by decide) (by decide) (by decide) (by decide) (clx_at X c 32) (noat_ok (x := "TooMany") (f := "what") (fa_at c 101)) (noat_ok (x := "TooMany") (f := "limit") (fa_at c 102)) (fun _ => rfl) (fun _ => rfl)) (fun _ _ _ _ _ _ us hl => match us, hl with | [_, _, _], _ => rfl) (fun _ _ _ _ _ _ s0 ws hl ks e => by match ws, hl with | [_, _], _ => rw [List.append_cancel_right (bs := [("self" : Str)]) (as := ks) (cs := ["limit", "what"]) e]; rfl)
theorem t_no_TooMany_what (X : K.In h) (G : h.Ns mainGlobals mg) (cc : obsF fb fnL K = valD fnL) : PySem.W.findIn K (.ref (He.ga K "TooMany")) "what" = some none := by
  have c : fb K = true := says_fb cc
  exact noat_ok (x := "TooMany") (f := "what") (fa_at c 101)
theorem t_no_TooMany_limit (X : K.In h) (G : h.Ns mainGlobals mg) (cc : obsF fb fnL K = valD fnL) : PySem.W.findIn K (.ref (He.ga K "TooMany")) "limit" = some none := by
  have c : fb K = true := says_fb cc
  exact noat_ok (x := "TooMany") (f := "limit") (fa_at c 102)
theorem t_gs (X : K.In h) (G : h.Ns mainGlobals mg) (cc : obsF fb fnL K = valD fnL) : Exv.Gs K := by
  have c : fb K = true := says_fb cc
  exact ⟨of_decide_eq_true (ba (fb_at c 3)).1, of_decide_eq_true (ba (fb_at c 3)).2⟩
theorem t_kL (X : K.In h) (G : h.Ns mainGlobals mg) (cc : obsF fb fnL K = valD fnL) : ∀ i j, i < 33 → j < 33 → PySem.W.kitOne K (.ref (He.ga K (leafN i))) (.ref (He.ga K (leafN j))) = some (i == j) := by
  have c : fb K = true := says_fb cc
  exact fun i j hi hj => of_decide_eq_true (List.all_eq_true.mp (List.all_eq_true.mp (fb_at c 4) i (List.mem_range.mpr hi)) j (List.mem_range.mpr hj))
theorem t_kB (X : K.In h) (G : h.Ns mainGlobals mg) (cc : obsF fb fnL K = valD fnL) : ∀ i j, i < 33 → j < 4 → PySem.W.kitOne K (.ref (He.ga K (leafN i))) (.ref (He.ga K (brN j))) = some (brI i == j) := by
  have c : fb K = true := says_fb cc
  exact fun i j hi hj => of_decide_eq_true (List.all_eq_true.mp (List.all_eq_true.mp (fb_at c 5) i (List.mem_range.mpr hi)) j (List.mem_range.mpr hj))
theorem t_kT (X : K.In h) (G : h.Ns mainGlobals mg) (cc : obsF fb fnL K = valD fnL) : ∀ i j, i < 33 → j < 4 → PySem.W.kitOne K (.ref (He.ga K (leafN i))) (.type (bT j)) = some (brI i == j) := by
  have c : fb K = true := says_fb cc
  exact fun i j hi hj => of_decide_eq_true (List.all_eq_true.mp (List.all_eq_true.mp (fb_at c 6) i (List.mem_range.mpr hi)) j (List.mem_range.mpr hj))
theorem t_kI (X : K.In h) (G : h.Ns mainGlobals mg) (cc : obsF fb fnL K = valD fnL) : PySem.W.kitOne K (.ref (He.ga K "TooMany")) (.type "int") = some false := by
  have c : fb K = true := says_fb cc
  exact of_decide_eq_true (ba (fb_at c 7)).1
theorem t_kO (X : K.In h) (G : h.Ns mainGlobals mg) (cc : obsF fb fnL K = valD fnL) : PySem.W.kitOne K (.ref (He.ga K "TooMany")) (.type "bool") = some false := by
  have c : fb K = true := says_fb cc
  exact of_decide_eq_true (ba (ba (fb_at c 7)).2).1
theorem t_kS (X : K.In h) (G : h.Ns mainGlobals mg) (cc : obsF fb fnL K = valD fnL) : PySem.W.kitOne K (.ref (He.ga K "TooMany")) (.type "str") = some false := by
  have c : fb K = true := says_fb cc
  exact of_decide_eq_true (ba (ba (fb_at c 7)).2).2
theorem t_cr (X : K.In h) (G : h.Ns mainGlobals mg) (cc : obsF fb fnL K = valD fnL) : Rp.ClR K (He.ga K "TooMany") "TooMany" := by
  have c : fb K = true := says_fb cc
  exact cr_ok (clx_at X c 32) (fb_at c 8)
theorem txt (X : K.In h) (G : h.Ns mainGlobals mg) (cc : obsF fb fnL K = valD fnL) : Txt K mg := {
    n_len := t_n_len X G cc,
    n_int := t_n_int X G cc,
    n_abs := t_n_abs X G cc,
    n_max := t_n_max X G cc,
    n_divmod := t_n_divmod X G cc,
    n_isinstance := t_n_isinstance X G cc,
    n_bool := t_n_bool X G cc,
    n_str := t_n_str X G cc,
    n_repr := t_n_repr X G cc,
    n_range := t_n_range X G cc,
    n_all := t_n_all X G cc,
    n_sum := t_n_sum X G cc,
    n_min := t_n_min X G cc,
    n_ValueError := t_n_ValueError X G cc,
    n_LookupError := t_n_LookupError X G cc,
    n_RuntimeError := t_n_RuntimeError X G cc,
    n_ArithmeticError := t_n_ArithmeticError X G cc,
    c_MOST_LETTERS := t_c_MOST_LETTERS X G cc,
    S_is_integer := t_S_is_integer X G cc,
    S_is_count := t_S_is_count X G cc,
    S_is_name := t_S_is_name X G cc,
    S_l_pot := t_S_l_pot X G cc,
    S_l_draw := t_S_l_draw X G cc,
    S_l_among := t_S_l_among X G cc,
    S_l_thing := t_S_l_thing X G cc,
    S_l_basics_right := t_S_l_basics_right X G cc,
    S_l_singles := t_S_l_singles X G cc,
    S_l_branches := t_S_l_branches X G cc,
    S_l_due := t_S_l_due X G cc,
    S_l_many_own := t_S_l_many_own X G cc,
    S_l_errors_right := t_S_l_errors_right X G cc,
    S_law := t_S_law X G cc,
    g_LineError := t_g_LineError X G cc,
    g_MissingError := t_g_MissingError X G cc,
    g_StateError := t_g_StateError X G cc,
    g_LimitError := t_g_LimitError X G cc,
    g_InvalidEntries := t_g_InvalidEntries X G cc,
    g_InvalidNames := t_g_InvalidNames X G cc,
    g_InvalidKinds := t_g_InvalidKinds X G cc,
    g_InvalidRenaming := t_g_InvalidRenaming X G cc,
    g_InvalidSize := t_g_InvalidSize X G cc,
    g_InvalidLines := t_g_InvalidLines X G cc,
    g_InvalidSet := t_g_InvalidSet X G cc,
    g_InvalidChoice := t_g_InvalidChoice X G cc,
    g_InvalidMarks := t_g_InvalidMarks X G cc,
    g_InvalidHeight := t_g_InvalidHeight X G cc,
    g_InvalidPeriod := t_g_InvalidPeriod X G cc,
    g_InvalidPartners := t_g_InvalidPartners X G cc,
    g_InvalidColumn := t_g_InvalidColumn X G cc,
    g_InvalidState := t_g_InvalidState X G cc,
    g_InvalidLength := t_g_InvalidLength X G cc,
    g_InvalidText := t_g_InvalidText X G cc,
    g_InvalidClaim := t_g_InvalidClaim X G cc,
    g_InvalidWay := t_g_InvalidWay X G cc,
    g_InvalidCommand := t_g_InvalidCommand X G cc,
    g_UnknownName := t_g_UnknownName X G cc,
    g_UnknownKind := t_g_UnknownKind X G cc,
    g_UnknownCell := t_g_UnknownCell X G cc,
    g_UnknownLine := t_g_UnknownLine X G cc,
    g_KindTaken := t_g_KindTaken X G cc,
    g_SameKinds := t_g_SameKinds X G cc,
    g_NotFlat := t_g_NotFlat X G cc,
    g_OtherPiece := t_g_OtherPiece X G cc,
    g_Marked := t_g_Marked X G cc,
    g_WrongTurn := t_g_WrongTurn X G cc,
    g_NoAnswer := t_g_NoAnswer X G cc,
    g_NothingToUndo := t_g_NothingToUndo X G cc,
    g_CommandFailed := t_g_CommandFailed X G cc,
    g_TooMany := t_g_TooMany X G cc,
    e_InvalidEntries := t_e_InvalidEntries X G cc,
    no_InvalidEntries_position := t_no_InvalidEntries_position X G cc,
    e_InvalidNames := t_e_InvalidNames X G cc,
    no_InvalidNames_position := t_no_InvalidNames_position X G cc,
    e_InvalidKinds := t_e_InvalidKinds X G cc,
    no_InvalidKinds_value := t_no_InvalidKinds_value X G cc,
    e_InvalidRenaming := t_e_InvalidRenaming X G cc,
    no_InvalidRenaming_value := t_no_InvalidRenaming_value X G cc,
    e_InvalidSize := t_e_InvalidSize X G cc,
    no_InvalidSize_value := t_no_InvalidSize_value X G cc,
    e_InvalidLines := t_e_InvalidLines X G cc,
    no_InvalidLines_position := t_no_InvalidLines_position X G cc,
    e_InvalidSet := t_e_InvalidSet X G cc,
    no_InvalidSet_position := t_no_InvalidSet_position X G cc,
    e_InvalidChoice := t_e_InvalidChoice X G cc,
    no_InvalidChoice_value := t_no_InvalidChoice_value X G cc,
    e_InvalidMarks := t_e_InvalidMarks X G cc,
    no_InvalidMarks_position := t_no_InvalidMarks_position X G cc,
    e_InvalidHeight := t_e_InvalidHeight X G cc,
    no_InvalidHeight_value := t_no_InvalidHeight_value X G cc,
    e_InvalidPeriod := t_e_InvalidPeriod X G cc,
    no_InvalidPeriod_value := t_no_InvalidPeriod_value X G cc,
    e_InvalidPartners := t_e_InvalidPartners X G cc,
    no_InvalidPartners_value := t_no_InvalidPartners_value X G cc,
    e_InvalidColumn := t_e_InvalidColumn X G cc,
    no_InvalidColumn_value := t_no_InvalidColumn_value X G cc,
    e_InvalidState := t_e_InvalidState X G cc,
    no_InvalidState_value := t_no_InvalidState_value X G cc,
    e_InvalidLength := t_e_InvalidLength X G cc,
    no_InvalidLength_value := t_no_InvalidLength_value X G cc,
    e_InvalidText := t_e_InvalidText X G cc,
    no_InvalidText_line := t_no_InvalidText_line X G cc,
    e_InvalidClaim := t_e_InvalidClaim X G cc,
    no_InvalidClaim_value := t_no_InvalidClaim_value X G cc,
    e_InvalidWay := t_e_InvalidWay X G cc,
    no_InvalidWay_value := t_no_InvalidWay_value X G cc,
    e_InvalidCommand := t_e_InvalidCommand X G cc,
    no_InvalidCommand_value := t_no_InvalidCommand_value X G cc,
    e_UnknownName := t_e_UnknownName X G cc,
    no_UnknownName_value := t_no_UnknownName_value X G cc,
    e_UnknownKind := t_e_UnknownKind X G cc,
    no_UnknownKind_value := t_no_UnknownKind_value X G cc,
    e_UnknownCell := t_e_UnknownCell X G cc,
    no_UnknownCell_value := t_no_UnknownCell_value X G cc,
    e_UnknownLine := t_e_UnknownLine X G cc,
    no_UnknownLine_value := t_no_UnknownLine_value X G cc,
    e_KindTaken := t_e_KindTaken X G cc,
    no_KindTaken_value := t_no_KindTaken_value X G cc,
    e_SameKinds := t_e_SameKinds X G cc,
    no_SameKinds_one := t_no_SameKinds_one X G cc,
    no_SameKinds_other := t_no_SameKinds_other X G cc,
    e_NotFlat := t_e_NotFlat X G cc,
    no_NotFlat_value := t_no_NotFlat_value X G cc,
    e_OtherPiece := t_e_OtherPiece X G cc,
    no_OtherPiece_one := t_no_OtherPiece_one X G cc,
    no_OtherPiece_other := t_no_OtherPiece_other X G cc,
    e_Marked := t_e_Marked X G cc,
    no_Marked_value := t_no_Marked_value X G cc,
    e_WrongTurn := t_e_WrongTurn X G cc,
    no_WrongTurn_value := t_no_WrongTurn_value X G cc,
    e_NoAnswer := t_e_NoAnswer X G cc,
    e_NothingToUndo := t_e_NothingToUndo X G cc,
    e_CommandFailed := t_e_CommandFailed X G cc,
    no_CommandFailed_position := t_no_CommandFailed_position X G cc,
    e_TooMany := t_e_TooMany X G cc,
    no_TooMany_what := t_no_TooMany_what X G cc,
    no_TooMany_limit := t_no_TooMany_limit X G cc,
    gs := t_gs X G cc,
    kL := t_kL X G cc,
    kB := t_kB X G cc,
    kT := t_kT X G cc,
    kI := t_kI X G cc,
    kO := t_kO X G cc,
    kS := t_kS X G cc,
    cr := t_cr X G cc }
end
end K10

set_option Elab.async false
set_option linter.all false
set_option maxRecDepth 100000
set_option maxHeartbeats 0
open PySem PySem.W PySem.Calls PyProof.Rows
theorem PySem.Challenge.cw_twoeach_k10_numbers_names_and_errors_holds : PySem.Challenge.rw_twoeach_k10_numbers_names_and_errors.Holds := by
  w_on; o_law
  refine HandSHeadRun.head_any (r := OpenLaw.row PySem.Challenge.rw_twoeach_k10_numbers_names_and_errors) (q := view (OpenLaw.row PySem.Challenge.rw_twoeach_k10_numbers_names_and_errors).prog [54]) (H := K10.hk) (ob := K10.ob) (M := 9600) (loose := K10.looseL) (d := HandSHeadRun.topDef (OpenLaw.row PySem.Challenge.rw_twoeach_k10_numbers_names_and_errors).prog 54) (kwd := []) K10.ob_eq
    (by kernel_rfl) (fun s => by kernel_rfl) K10.run (by kernel_rfl) (by kernel_rfl) (by kernel_rfl) (by rfl) (by first | assumption | decide +kernel) (by decide +kernel) ⟨rfl, rfl, rfl, rfl, rfl, by decide +kernel⟩ ?hw ?hc
  case hw => w_witness2
  case hc =>
    refine Hd.walk_GE (l := PySem.Challenge.rw_twoeach_k10_numbers_names_and_errors) (n := 63) (k := 5) (x := "_law_script") rfl (by decide) (by kernel_rfl) ⟨rfl, by decide, by decide⟩ ?F
    intro w mg fa h Y G hmg0
    obtain ⟨K, KX, c⟩ := Y
    have hmg : mg ("law" : PySem.Str) = some (.ref fa) := by
      have e : (HandSHeadRun.topDef (OpenLaw.row PySem.Challenge.rw_twoeach_k10_numbers_names_and_errors).prog 54).name = ("law" : PySem.Str) := by kernel_rfl
      rw [← e]
      exact hmg0
    obtain ⟨fd, F⟩ := (Hd.says_fn c).def_ 13
    have gl := He.glo_ok (x := "law") KX G (K10.fa_at (Hd.says_fb c) 31)
    have ea : fa = He.ga K "law" := by
      have z := hmg.symm.trans gl
      cases z
      rfl
    refine ⟨K, fd, K10.spLaw K, KX, fun s u => ?_, fun H a ns hl _ hS => ⟨a, ns, rfl, hS, hl, fun _ _ => rfl⟩, fun base kb nb => ?_⟩
    · exact (L2.FunD.bindsA (ps := ["_law_script"]) F fun _ _ _ _ _ _ us hl => match us, hl with | [_], _ => rfl) s [u] rfl
    · subst ea
      exact K10.g_law (K10.txt KX G c) (Hd.fun_of F)

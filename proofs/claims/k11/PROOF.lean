import PyProof.Rows.All
import Wide.All
import OpenK.AllK
import Wide.FinOn
import HandS.ForMost
import HandS.WideBits
import HandS.Flow
import HandS.Exc
import KE.KExcInit
import HandS.ExcInit
import HandS.ExcIs
import HandS.IsInst
import HandS.Star
import HandS.Walk
import PyProof.ReprHeadsEmpty
import HandS.StrMore
import HandS.FStr
import HandS.Property
import HandS.ClsMeth
import OpenK.KOps
import PyProof.InstNe
import HandS.SortOrd
import HandS.TupLe
import HandS.Set
import HandS.SetFor
import HandS.Strs
import HandS.SortRule
import PyProof.ReprHeadsTuple
import KE.GoesMore
import HandS.Deep
import KE.GoesEnum
import HandS.HeadHook2
import PySem.Challenge.RW_twoeach_k11_kinds_told
import HandS.Conv
import HandS.DictComp
import HandS.Text
import HandS.Style
import PyProof.Rows.StrMeet
import HandS.Head0
import HandS.Head1
import HandS.Head2
import HandS.HeadEnd
import HandS.HeadHook1
set_option Elab.async false
set_option linter.all false
set_option maxRecDepth 100000
namespace Lay
open PySem L2 PySem.Spec PyProof.Rows
/-! ### a def's promise where it is known that no text of an object is being made (for repr) -/
structure FnG (P : Program) (w : World) (K : PySem.W.Frag) (mg : Str → Option Value) (base : Heap) (CX : CXT) (k : Nat) (f : Addr) (fd : FuncData)
    (ps : List Str) (sp : Sp) : Prop where
  len : ∀ vs H Q E, sp vs H Q E → vs.length = ps.length
  run : ∀ (A : Around) (outer : List Env) (s : Shared) (H : Hp) (args : Args) (us : List Value) (vs : List V) (Q : VK) (E : XK),
    Room k A → A.guards = some [] → Env0 P w K mg base A outer s H → BindsTo s fd args (ps.zip us) → Vals vs us → sp vs H Q E →
    codeAny (model P w) A (.call (.ref f) args) (CR CX outer P w H s Q E) s
section
variable {CX : CXT} {P : Program} {w : World} {K : PySem.W.Frag} {mg : Str → Option Value} {base : Heap} {k : Nat} {f : Addr} {fd : FuncData} {ps : List Str} {sp sp' : Sp}
theorem FnG.of (F : FnOk P w K mg base CX k f fd ps sp) : FnG P w K mg base CX k f fd ps sp :=
  ⟨F.len, fun A outer s H args us vs Q E hr _ => F.run A outer s H args us vs Q E hr⟩
theorem FnG.imp (F : FnG P w K mg base CX k f fd ps sp) (h : ∀ vs H Q E, sp' vs H Q E → sp vs H Q E) : FnG P w K mg base CX k f fd ps sp' :=
  ⟨fun vs H Q E z => F.len vs H Q E (h _ _ _ _ z), fun A outer s H args us vs Q E hr hg he hb hv z => F.run A outer s H args us vs Q E hr hg he hb hv (h _ _ _ _ z)⟩
theorem FnG.mono {j : Nat} (F : FnG P w K mg base CX j f fd ps sp) (h : j ≤ k) : FnG P w K mg base CX k f fd ps sp :=
  ⟨F.len, fun A outer s H args us vs Q E hr => F.run A outer s H args us vs Q E (hr.mono h)⟩
/-- a def of the text, by its body -/
theorem fnG_of {name qual : Str} {params : Arguments} {body : List Stmt} {scope : Scope} {dV kV doc pm cdv ct oc : Value} {an od : Option Addr}
    {osl : Array (Option Value)} {N : List Str} (lk : K.lookup f = some ⟨oc, od, .func (PySem.W.fnOf name qual params body scope dV kV doc pm an cdv ct), osl⟩)
    (hcd : PySem.W.codeIn K cdv qual = true) (S : FnScope N ps scope) (len : ∀ vs H Q E, sp vs H Q E → vs.length = ps.length)
    (hbody : ∀ (A : Around) (outer : List Env) (s : Shared) (H : Hp) (vs : List V) (Q : VK) (E : XK), Room k (A.deeper (envOfC qual scope s.heap.objs.size f cdv)) →
      A.guards = some [] → sp vs H Q E →
      ∃ t, PSs (cxOf CX P w K mg base N qual scope f cdv A outer s H E) body t ∧ t { nx := fun _ H' => Q .non H', rt := Q } (start N vs) H) :
    FnG P w K mg base CX (k + 1) f (PySem.W.fnOf name qual params body scope dV kV doc pm an cdv ct) ps sp := by
  refine ⟨len, fun A outer s H args us vs Q E hr hg e0 hb r hsp => ?_⟩
  have hl := len _ _ _ _ hsp
  have kx : K.In s.heap := e0.mod.kin.keeps fun b o e => (e0.bs b o e).1
  have nl : s.heap.NoLimit := e0.mod.nolimit.keeps fun b o e => (e0.bs b o e).1
  have kinds : ∀ y ∈ ps.zip us, scope.names.lookup y.1 = some .local ∨
      (scope.names.lookup y.1 = some .cell ∧ ((cellsFrom (s.heap.objs.size + 1) scope.names []).lookup y.1).isSome = true) := fun ⟨n, v⟩ hy => by
    rcases S.par n (List.of_mem_zip hy).1 with q | q
    · exact .inl q
    · exact .inr ⟨q, PySem.W.cellsFrom_some _ _ _ (.inl q)⟩
  refine codeAny_call_function hr.depth (kx _ _ lk) rfl S.co S.gen rfl (PySem.W.codeRec_of kx hcd) (hb _ _ _ _ ?_)
  refine wpAny_newFunctionEnv_cells S.kind kinds fun env he s1 x => ?_
  subst he
  refine ⟨nl.keeps x.toInCall.keep, codeAny_func ?_⟩
  obtain ⟨t, ht, hq⟩ := hbody A outer s H vs Q E (hr.deeper _) hg hsp
  have I : Inv (cxOf CX P w K mg base N qual scope f cdv A outer s H E) [] (start N vs) H s1 := inv_start S hr.hd e0 hl r x
  refine wpAny_mono (ht.run [] s1 (start N vs) H _ I hq) (fun fl s' hs => ?_) fun e s' hs => hs
  cases fl with
  | ret u =>
    obtain ⟨v, σ', H', J, rv, q⟩ := hs
    exact ⟨v, H', J.os, J.bare, J.base, J.hok, rv, q⟩
  | next =>
    obtain ⟨σ', H', J, q⟩ := hs
    exact ⟨V.non, H', J.os, J.bare, J.base, J.hok, rfl, q⟩
  | brk =>
    obtain ⟨_, _, _, q⟩ := hs
    exact False.elim q
  | cont =>
    obtain ⟨_, _, _, q⟩ := hs
    exact False.elim q
end
theorem okG {P : Program} {w : World} {K : PySem.W.Frag} {mg : Str → Option Value} {base : Heap} {x qual : Str} {st : Stmt} {f : Addr} {fd : FuncData} {N ps : List Str} {k : Nat} {sp : Sp}
    (F : Fun K x qual st f fd) (S : FnScope N ps (defScope st)) (len : ∀ vs H Q E, sp vs H Q E → vs.length = ps.length)
    (hbody : ∀ (cdv : Value) (A : Around) (outer : List Env) (s : Shared) (H : Hp) (vs : List V) (Q : VK) (E : XK),
      Room k (A.deeper (envOfC qual (defScope st) s.heap.objs.size f cdv)) → A.guards = some [] → sp vs H Q E →
      ∃ t, PSs (cxOf CX0 P w K mg base N qual (defScope st) f cdv A outer s H E).nox (defBody st) t ∧ t { nx := fun _ H' => Q .non H', rt := Q } (start N vs) H) :
    FnG P w K mg base CX0 (k + 1) f fd ps sp := by
  obtain ⟨oc, od, kV, doc, pm, an, cdv, ct, osl, rfl, lk, hcd⟩ := F.ex
  refine fnG_of lk hcd S len fun A outer s H vs Q E hr hg hsp => ?_
  obtain ⟨t, h, q⟩ := hbody cdv A outer s H vs Q E hr hg hsp
  exact ⟨t, h.nox, q⟩
section
variable {X : Cx} {k : Nat} {f : Addr} {fd : FuncData} {ps ks : List Str} {sp : Sp} {pins : List (Addr × Obj)} {σ : L2.St} {H : Hp} {s : Shared} {Q : VK} {us ws : List Value} {vs zs : List V}
theorem run_G {args : Args} {us' : List Value} {vs' : List V} (F : FnG X.prog X.w X.K X.mg X.base CX0 k f fd ps sp) (hr : Room k X.A) (hg : X.A.guards = some []) (I : Inv X pins σ H s)
    (hb : BindsTo s fd args (ps.zip us')) (r : Vals vs' us') (h : sp vs' H Q E0) : codeAny (model X.prog X.w) X.A (.call (.ref f) args)
      (fun r s' => match r with | .ok (.ret v) => EP X pins σ Q v s' | .ok _ => False | .error x => X.xe x s') s := by
  refine codeAny_mono (F.run X.A X.stack s H args us' vs' Q E0 hr hg I.env0 hb r h) fun r s' hq => ?_
  cases r with
  | error e => exact False.elim hq
  | ok fl =>
    cases fl with
    | ret u => exact I.after hq
    | next => exact False.elim hq
    | brk => exact False.elim hq
    | cont => exact False.elim hq
end

/-! ### the end of a law row -/
theorem law_callG {P : Program} {w : World} {K : PySem.W.Frag} {mg mb : Str → Option Value} {k : Nat} {fa a : Addr} {fd : FuncData} {x : Str} {sp : Sp} {s1 : Shared} {vs : List Value} {ns : List Int}
    (KX : K.In s1.heap) (hns : s1.heap.Ns mainGlobals mg) (hb : s1.heap.Ns builtinsNs mb) (hbb : ∀ x : Str, x ≠ "__name__" → mb x = bootBuiltins x)
    (hlim : s1.heap.NoLimit) (hg : s1.gens = #[]) (ha : s1.heap.get? a = some { cls := .type "list", data := .seq vs.toArray }) (hi : IntsAre vs ns)
    (hl : ns.length ≤ sizeLine) (hr : Room k callerA) (F : ∀ base : Heap, K.In base → base.Ns mainGlobals mg → FnG P w K mg base CX0 k fa fd [x] sp)
    (hbind : ∀ (s : Shared) (u : Value), BindsTo s fd ⟨[u], []⟩ [(x, u)])
    (hsp : ∀ H : Hp, Only H → SqL K H a (ns.map V.int) → sp [.ref a] H (fun v _ => v = .bl true) fun _ _ _ => False) :
    codeAny (model P w) callerA (.call (.ref fa) ⟨[.ref a], []⟩)
      (fun r s' => r = .ok (.ret (.bool true)) ∧ OldK s1.heap s'.heap ∧ s'.os = s1.os ∧ AllBare s'.gens) s1 := by
  have rv := vals_ints hi
  have lenV := hi.length
  have core : ∀ H : Hp, Only H → SqL K H a (ns.map V.int) → HOk P w H s1.heap → (∀ b, H b ≠ none → b = a) → (H a ≠ none → K.lookup a = none) →
      codeAny (model P w) callerA (.call (.ref fa) ⟨[.ref a], []⟩)
        (fun r s' => r = .ok (.ret (.bool true)) ∧ OldK s1.heap s'.heap ∧ s'.os = s1.os ∧ AllBare s'.gens) s1 := by
    intro H hO hS hok hA hK
    have bo : ∀ {b : Addr} {o : Obj}, s1.heap.get? b = some o → H b = none → (hidT s1.heap H).get? b = some o := fun e n => hidT_get e n
    have na : ∀ {b : Addr} {o : Obj} {es : Array DictEntry} {ep : Nat}, s1.heap.get? b = some o → o.data = .dict es ep → H b = none := by
      intro b o es ep e d
      cases q : H b with
      | none => rfl
      | some u =>
        have e' : b = a := hA b (by rw [q]; simp)
        subst e'
        rw [ha] at e; cases e
        have d' : Data.seq vs.toArray _ = Data.dict es ep := d
        cases d'
    have nsK : ∀ {b : Addr} {m : Str → Option Value}, s1.heap.Ns b m → (hidT s1.heap H).Ns b m := by
      intro b m ⟨o, es, ep, e, d, r⟩
      exact ⟨o, es, ep, bo e (na e d), d, r⟩
    have kb : K.In (hidT s1.heap H) := by
      intro b o e
      refine bo (KX b o e) ?_
      cases q : H b with
      | none => rfl
      | some u =>
        have e' : b = a := hA b (by rw [q]; simp)
        subst e'
        rw [hK (by rw [q]; simp)] at e; cases e
    have hM : Mod K mg (hidT s1.heap H) := by
      obtain ⟨mc, h1, h2⟩ := hlim
      exact ⟨kb, nsK hns, ⟨mb, nsK hb, hbb⟩, ⟨mc, nsK h1, h2⟩⟩
    have e0 : Env0 P w K mg (hidT s1.heap H) callerA [] s1 H :=
      ⟨rfl, hM, fun b o e => of_hidT e, Nat.le_of_eq (hidT_size _ _), trivial, fun b hb => absurd (show b ∈ ([] : List Addr) from hb) (by simp), hok, .of_eq hg⟩
    refine codeAny_mono ((F _ kb (nsK hns)).run callerA [] s1 H ⟨[.ref a], []⟩ [.ref a] [.ref a] _ _ hr rfl e0 (hbind s1 (.ref a)) (.cons rfl .nil) (hsp H hO hS)) fun r s' h => ?_
    cases r with
    | error e => exact h.elim
    | ok fl =>
      cases fl with
      | next => exact False.elim h
      | brk => exact False.elim h
      | cont => exact False.elim h
      | ret u =>
        obtain ⟨v, H', os, bare, un, hok', r', q⟩ := h
        have q' : v = .bl true := q
        subst q'
        obtain rfl : u = Value.bool true := r'
        refine ⟨rfl, OldK.of_keep fun b o e => ?_, os, bare⟩
        cases q : H b with
        | none => exact un.keep b o e q (fun z => nomatch (show b ∈ ([] : List Addr) from z)) (by simp)
        | some u =>
          rcases hO b with z | ⟨ob, xs, z⟩
          · rw [q] at z; cases z
          · obtain ⟨e1, _⟩ := hok b _ z
            obtain ⟨e2, _⟩ := hok' b _ (un.frzs b ob _ z)
            rw [e] at e1; cases e1
            exact e2
  cases hk : K.lookup a with
  | some o =>
    have e := KX a o hk
    rw [ha] at e
    cases e
    exact core (fun _ => none) (fun _ => .inl rfl) (.inr ⟨_, vs.toArray, _, hk, rfl, rfl, rfl, by rw [List.size_toArray, lenV]; exact hl, by simpa using rv⟩)
      (fun b u z => by cases (show (none : Option HO) = some u from z)) (fun b z => absurd rfl z) fun z => absurd rfl z
  | none =>
    refine core (fun b => if b = a then some (.frz { cls := .type "list", data := .seq vs.toArray } (.lst (ns.map V.int))) else none)
      (fun b => ?_) (.inl (.inr ⟨{ cls := .type "list", data := .seq vs.toArray }, if_pos rfl⟩)) (fun b u z => ?_) (fun b z => ?_) fun _ => hk
    · by_cases hb : b = a
      · exact .inr ⟨_, _, if_pos hb⟩
      · exact .inl (if_neg hb)
    · by_cases hb : b = a
      · cases (if_pos hb).symm.trans z
        subst hb
        exact ⟨ha, by rw [List.length_map]; exact hl, vs, _, rv, ha⟩
      · cases (if_neg hb).symm.trans z
    · by_cases hb : b = a
      · exact hb
      · exact absurd (if_neg hb) z
theorem walk_G {l : PySem.W.OpenLaw} {n k : Nat} {q : Program} {loose : List Str} {XP : (Str → Option Value) → Heap → Prop} {YP : World → Heap → Prop} {d : DefRec} {K : Params → PySem.W.Frag}
    {sp : PySem.W.Frag → Sp} {x : Str} (hn : l.most = some n) (hn2 : n ≤ sizeLine) (hdf : d.params.defaults = []) (hr : Room k callerA)
    (hY : ∀ (w : World) (h : Heap), YP w h → (K w.params).In h)
    (F : ∀ (w : World) (mg : Str → Option Value) (fa : Addr) (h : Heap), (K w.params).In h → h.Ns mainGlobals mg → mg d.name = some (.ref fa) →
      ∃ fd : FuncData, (∀ (s : Shared) (u : Value), BindsTo s fd ⟨[u], []⟩ [(x, u)]) ∧
        ∀ base : Heap, (K w.params).In base → base.Ns mainGlobals mg → FnG l.prog w (K w.params) mg base CX0 k fa fd [x] (sp (K w.params)))
    (hsp : ∀ (K : PySem.W.Frag) (H : Hp) (a : Addr) (ns : List Int), ns.length ≤ n → Only H → SqL K H a (ns.map V.int) → sp K [.ref a] H (fun v _ => v = .bl true) fun _ _ _ => False) :
    PySem.W.WalkO q loose XP YP l.row.toRowW d [] (fun f vs => PySem.call f vs) := by
  refine Att.attach_call hn hdf fun w s0 s1 mg mb fa o pm cd doc a vs ns G Y ho hd hcd hmg hobj hints hlen hg => ?_
  have KX := hY w _ Y
  obtain ⟨fd, hb, hF⟩ := F w mg fa _ KX G.T.g hmg
  exact law_callG KX G.T.g G.T.b G.T.builtins G.T.nolimit hg hobj hints (Nat.le_trans hlen hn2) hr hF hb fun H hO hS => hsp _ H a ns hlen hO hS
end Lay

set_option Elab.async false
set_option linter.all false
set_option maxRecDepth 100000
set_option maxHeartbeats 4000000
namespace Lay
open PySem L2

/-! ### the same objects, some of them told otherwise -/
structure Alike (H H1 : Hp) : Prop where
  none : ∀ b, H b = Option.none ↔ H1 b = Option.none
  tup : ∀ b xs, H b = some (.tup xs) ↔ H1 b = some (.tup xs)
  frz : ∀ b o u, H b = some (.frz o u) ↔ H1 b = some (.frz o u)
  tbl : ∀ b ps, H b = some (.tbl ps) ↔ H1 b = some (.tbl ps)
theorem Alike.refl {H : Hp} : Alike H H := ⟨fun _ => Iff.rfl, fun _ _ => Iff.rfl, fun _ _ _ => Iff.rfl, fun _ _ => Iff.rfl⟩
/-- no tuple, no locked object, no table, no own dict -/
def plainO : HO → Bool
  | .tup _ => false
  | .frz _ _ => false
  | .tbl _ => false
  | .own _ => false
  | _ => true
theorem Alike.upd {H : Hp} {q : Addr} {o o' : HO} (h : H q = some o) (p : plainO o = true) (p' : plainO o' = true) : Alike H (upd H q o') := by
  refine ⟨fun b => ?_, fun b xs => ?_, fun b o u => ?_, fun b ps => ?_⟩ <;> by_cases e : b = q
  · subst e; rw [upd_same, h]; constructor <;> intro z <;> cases z
  · rw [upd_ne e]
  · subst e; rw [upd_same, h]; constructor <;> intro z <;> cases z <;> first | cases p | cases p'
  · rw [upd_ne e]
  · subst e; rw [upd_same, h]; constructor <;> intro z <;> cases z <;> first | cases p | cases p'
  · rw [upd_ne e]
  · subst e; rw [upd_same, h]; constructor <;> intro z <;> cases z <;> first | cases p | cases p'
  · rw [upd_ne e]
theorem un_alike {fs : List Addr} {H H1 H2 H3 : Hp} {h h' : Heap} (a : Alike H H1) (b : Alike H2 H3) (u : Un fs [] H1 H2 h h') : Un fs [] H H3 h h' where
  keep := fun c o q n hc hx => u.keep c o q ((a.none c).mp n) hc hx
  slot := fun c o q n hc hx => u.slot c o q ((a.none c).mp n) hc hx
  free := fun c o q n hx => (b.none c).mp (u.free c o q ((a.none c).mp n) hx)
  there := fun c o q hx => u.there c o q hx
  tups := fun c xs q => (b.tup c xs).mp (u.tups c xs ((a.tup c xs).mp q))
  frzs := fun c o x q => (b.frz c o x).mp (u.frzs c o x ((a.frz c o x).mp q))
  tbls := fun c ps q => by
    obtain ⟨m, z⟩ := u.tbls c ps ((a.tbl c ps).mp q)
    exact ⟨m, (b.tbl c _).mp z⟩
theorem hok_retell {P : Program} {w : World} {H : Hp} {h : Heap} {q : Addr} {o o' : HO} (x : HOk P w H h) (e : H q = some o) (p : plainO o = true) (new : ObjOk P w (upd H q o') h q o') : HOk P w (upd H q o') h := fun b u eb => by
  by_cases hb : b = q
  · subst hb; rw [upd_same] at eb; cases eb; exact new
  · rw [upd_ne hb] at eb
    refine (x b u eb).stay (fun _ _ _ z => z) (fun c z => ?_) fun c xs z => ?_
    · rw [upd_ne (fun e' => by subst e'; rw [e] at z; cases z; cases p)]; exact z
    · rw [upd_ne (fun e' => by subst e'; rw [e] at z; cases z; cases p)]; exact z
theorem retell {P : Program} {w : World} {K : PySem.W.Frag} {mg : Str → Option Value} {base : Heap} {k : Nat} {f : Addr} {fd : FuncData} {ps : List Str} {sp sp' : Sp} (F : FnG P w K mg base CX0 k f fd ps sp) (hl : ∀ vs H Q E, sp' vs H Q E → vs.length = ps.length)
    (h : ∀ vs H Q E hp, sp' vs H Q E → HOk P w H hp → ∃ H1, Alike H H1 ∧ HOk P w H1 hp ∧ sp vs H1 (fun v H2 => ∀ hp', HOk P w H2 hp' → ∃ H3, Alike H2 H3 ∧ HOk P w H3 hp' ∧ Q v H3) E) : FnG P w K mg base CX0 k f fd ps sp' := by
  refine ⟨hl, fun A outer s H args us vs Q E hr hg e0 hb hv hs => ?_⟩
  obtain ⟨H1, al, ok1, hs1⟩ := h vs H Q E s.heap hs e0.hok
  have e1 : Env0 P w K mg base A outer s H1 := ⟨e0.frames, e0.mod, fun b o e => ⟨(e0.bs b o e).1, (al.none b).mp (e0.bs b o e).2⟩, e0.bsz, e0.funs, fun b hb => (al.none b).mp (e0.frf b hb), ok1, e0.bare⟩
  refine codeAny_mono (F.run A outer s H1 args us vs _ E hr hg e1 hb hv hs1) fun r s' q => ?_
  cases r with
  | error er => exact False.elim q
  | ok fl =>
    cases fl with
    | ret u =>
      obtain ⟨v, H2, os, ba, un, ok2, rv, q2⟩ := q
      obtain ⟨H3, al2, ok3, q3⟩ := q2 s'.heap ok2
      exact ⟨v, H3, os, ba, un_alike al al2 un, ok3, rv, q3⟩
    | next => exact False.elim q
    | brk => exact False.elim q
    | cont => exact False.elim q

/-! ### a def of the text, with all that a call of it needs -/
def Kw1 (fd : FuncData) (ps : List Str) : Prop := ∀ p v, ps = [p] → bindArgs fd ⟨[], [(p, v)]⟩ = pure [(p, v)]
def Src (K : PySem.W.Frag) (mg : Str → Option Value) (x : Str) (st : Stmt) (ps : List Str) : Prop := ∃ f fd, Fun K x x st f fd ∧ mg x = some (.ref f) ∧ Binds K fd ps [] ∧ Kw1 fd ps
def Df (P : Program) (w : World) (K : PySem.W.Frag) (mg : Str → Option Value) (base : Heap) (k : Nat) (x : Str) (ps : List Str) (sp : Sp) : Prop :=
  ∃ f fd, FnG P w K mg base CX0 k f fd ps sp ∧ mg x = some (.ref f) ∧ PySem.W.keepIn K (.ref f) = true ∧ Binds K fd ps [] ∧ Kw1 fd ps
section
variable {P : Program} {w : World} {K : PySem.W.Frag} {mg : Str → Option Value} {base : Heap} {x : Str} {st : Stmt} {N ps : List Str} {sp sp' : Sp} {k j : Nat}
theorem Src.ok (S : Src K mg x st ps) (h : ∀ f fd, Fun K x x st f fd → FnG P w K mg base CX0 k f fd ps sp) : Df P w K mg base k x ps sp := by
  obtain ⟨f, fd, F, g, b⟩ := S
  exact ⟨f, fd, h f fd F, g, F.kp, b⟩
/-- a def, by its body -/
theorem Src.by (S : Src K mg x st ps) (sc : FnScope N ps (defScope st)) (len : ∀ vs H Q E, sp vs H Q E → vs.length = ps.length)
    (hbody : ∀ (f : Addr) (cdv : Value) (A : Around) (outer : List Env) (s : Shared) (H : Hp) (vs : List V) (Q : VK) (E : XK),
      Room k (A.deeper (PyProof.Rows.envOfC x (defScope st) s.heap.objs.size f cdv)) → A.guards = some [] → sp vs H Q E →
      ∃ t, PSs (cxOf CX0 P w K mg base N x (defScope st) f cdv A outer s H E).nox (defBody st) t ∧ t { nx := fun _ H' => Q .non H', rt := Q } (start N vs) H) : Df P w K mg base (k + 1) x ps sp :=
  S.ok fun f fd F => okG F sc len (hbody f)
theorem Df.imp (D : Df P w K mg base k x ps sp) (h : ∀ vs H Q E, sp' vs H Q E → sp vs H Q E) : Df P w K mg base k x ps sp' := by
  obtain ⟨f, fd, F, r⟩ := D
  exact ⟨f, fd, F.imp h, r⟩
theorem Df.mono (D : Df P w K mg base j x ps sp) (h : j ≤ k) : Df P w K mg base k x ps sp := by
  obtain ⟨f, fd, F, r⟩ := D
  exact ⟨f, fd, F.mono h, r⟩
theorem Df.retell (D : Df P w K mg base k x ps sp) (hl : ∀ vs H Q E, sp' vs H Q E → vs.length = ps.length)
    (h : ∀ vs H Q E hp, sp' vs H Q E → HOk P w H hp → ∃ H1, Alike H H1 ∧ HOk P w H1 hp ∧ sp vs H1 (fun v H2 => ∀ hp', HOk P w H2 hp' → ∃ H3, Alike H2 H3 ∧ HOk P w H3 hp' ∧ Q v H3) E) : Df P w K mg base k x ps sp' := by
  obtain ⟨f, fd, F, r⟩ := D
  exact ⟨f, fd, Lay.retell F hl h, r⟩
end
/-- f(..), f(k = e), no exception leaves f -/
def tG (sp : Sp) (t : TA) : TE := fun σ H Q => t σ H fun vs H1 => sp vs H1 Q E0
section
variable {X : Cx} {x nm : Str} {ps : List Str} {sp : Sp} {k : Nat} {e : Expr} {es : List Expr} {t : TA} {te : TE} {p pos kpos : Pos}
theorem pe_own (D : Df X.prog X.w X.K X.mg X.base k x ps sp) (hr : Room k X.A) (hgd : X.A.guards = some []) (ht : PA X (e :: es) t) (hg : Gl X x := by rfl) (hdb : (x == ("__debug__" : Str)) = false := by decide) (hs : starEach (e :: es) X.env = (false, eval e X.env) :: starEach es X.env := by rfl) (hpl : (backTo pos (starEach es X.env)).any (·.1) = false := by rfl) :
    PE X (.Call (.Name x p) (e :: es) [] pos) (tG sp t) := by
  obtain ⟨f, fd, F, g, kp, b, _⟩ := D
  refine ⟨fun pins s σ H Q I h => ?_⟩
  refine wpAny_Call_Name_kw (ld_glob I hg g ?_ hdb)
  refine PySem.W.callWith_K (h₀ := X.base) I.ok.mod.kin kp (thn (ht.run pos pins s σ H _ I h) fun us s1 ⟨vs, H1, I1, r, q⟩ => ⟨I1.kIn, ?_⟩) hs hpl
  have hl : (us ++ []).length = ps.length := by rw [List.append_nil, ← r.length]; exact F.len _ _ _ _ q
  have b1 := b s1 us I1.kIn hl
  rw [List.append_nil] at b1
  exact wpAny_call (run_G F hr hgd I1 b1 r q)
theorem pe_own0 (D : Df X.prog X.w X.K X.mg X.base k x ps sp) (hr : Room k X.A) (hgd : X.A.guards = some []) (hg : Gl X x := by rfl) (hdb : (x == ("__debug__" : Str)) = false := by decide) : PE X (.Call (.Name x p) [] [] pos) (tG sp tNil) := by
  obtain ⟨f, fd, F, g, kp, b, _⟩ := D
  refine ⟨fun pins s σ H Q I h => ?_⟩
  refine wpAny_Call_Name_kw (ld_glob I hg g ?_ hdb)
  refine PySem.W.callWith_K0 I.kIn kp ?_
  have b1 := b s [] I.kIn (F.len _ _ _ _ h)
  exact wpAny_call (run_G F hr hgd I b1 .nil h)
theorem pe_own1K {q : Str} {kws : List Keyword} {tk : TA} (D : Df X.prog X.w X.K X.mg X.base k x [q] sp) (hr : Room k X.A) (hgd : X.A.guards = some []) (hkw : PK X kws tk) (hg : Gl X x := by rfl) (hdb : (x == ("__debug__" : Str)) = false := by decide)
    (hall : (backToKw pos (keywordEach kws X.env)).all (·.1.isSome) = true := by rfl) (hks : (backToKw pos (keywordEach kws X.env)).filterMap (·.1) = [q] := by rfl)
    (hpl : ((backTo pos (starEach [] X.env)).any (·.1) || (backToKw pos (keywordEach kws X.env)).any (·.1.isNone)) = false := by rfl) : PE X (.Call (.Name x p) [] kws pos) (tG sp tk) := by
  obtain ⟨f, fd, F, g, kp, _, b⟩ := D
  refine ⟨fun pins s σ H Q I h => ?_⟩
  refine wpAny_Call_Name_kw (ld_glob I hg g ?_ hdb)
  refine PySem.W.callWith_KW0 (h₀ := X.base) I.ok.mod.kin kp hall ?_ hpl
  refine thn (hkw.run pos pins s σ H _ I h) fun ws s2 ⟨zs, H2, I2, rz, q2⟩ => ⟨I2.kIn, ?_⟩
  rw [hks]
  have hl : zs.length = 1 := F.len _ _ _ _ q2
  cases rz with
  | nil => cases hl
  | @cons z u zr ur h1 rest =>
    cases rest with
    | cons _ _ => cases hl
    | nil =>
      have b1 : BindsTo s2 fd ⟨[], [(q, u)]⟩ ([q].zip [u]) := .of_eq (b q u rfl)
      exact wpAny_call (run_G (us' := [u]) (vs' := [z]) F hr hgd I2 b1 (.cons h1 .nil) q2)
end

/-! ### the pot: a list of two ints, whatever they are -/
def PotF (q : Addr) (h : Heap) : Prop := ∃ (a b : Int) (its : List Value) (n : Nat), 0 ≤ b ∧ b < 2147483648 ∧ Vals [.int a, .int b] its ∧ h.get? q = some { cls := .type "list", data := .seq its.toArray n }
def PotO (q : Addr) : HO := .ext (PotF q)
theorem pot_ok {P : Program} {w : World} {H : Hp} {h : Heap} {q : Addr} {a b : Int} (b0 : 0 ≤ b) (b1 : b < 2147483648) (x : ObjOk P w H h q (.lst [.int a, .int b])) (H' : Hp) : ObjOk P w H' h q (PotO q) := by
  obtain ⟨_, its, n, v, e⟩ := x
  exact ⟨⟨a, b, its, n, b0, b1, v, e⟩, ⟨_, e⟩, fun h1 h2 ⟨a, b, its, n, c0, c1, v, e⟩ k => ⟨a, b, its, n, c0, c1, v, k _ e⟩⟩
theorem pot_get {P : Program} {w : World} {H : Hp} {h : Heap} {q : Addr} (x : HOk P w H h) (e : H q = some (PotO q)) : ∃ a b : Int, 0 ≤ b ∧ b < 2147483648 ∧ ∀ H', ObjOk P w H' h q (.lst [.int a, .int b]) := by
  obtain ⟨⟨a, b, its, n, b0, b1, v, e⟩, _⟩ := x q _ e
  exact ⟨a, b, b0, b1, fun H' => ⟨by show 2 ≤ sizeLine; decide, its, n, v, e⟩⟩

/-- the raw promises: of the def that draws, of the def that makes a pot -/
def spDraw0 : Sp := fun vs H Q _ => ∃ (p : Addr) (m a b : Int), vs = [.ref p, .int m] ∧ H p = some (.lst [.int a, .int b]) ∧ 0 ≤ b ∧ b < 2147483648 ∧ 0 < m ∧ m < 2 ^ 200 ∧
  ∀ d a' b' H', 0 ≤ d → d < m → 0 ≤ b' → b' < 2147483648 → (∀ q o, q ≠ p → H q = some o → H' q = some o) → H' p = some (.lst [.int a', .int b']) → Q (.int d) H'
def spDraw : Sp := fun vs H Q _ => ∃ (p : Addr) (m : Int), vs = [.ref p, .int m] ∧ H p = some (PotO p) ∧ 0 < m ∧ m < 2 ^ 200 ∧
  ∀ d H', 0 ≤ d → d < m → Same H H' → Q (.int d) H'
theorem draw_up {P : Program} {w : World} {K : PySem.W.Frag} {mg : Str → Option Value} {base : Heap} {x : Str} {ps : List Str} {k : Nat} (D : Df P w K mg base k x ps spDraw0) (hl : ps.length = 2) : Df P w K mg base k x ps spDraw := by
  refine D.retell (fun vs H Q E h => ?_) fun vs H Q E hp h ok => ?_
  · obtain ⟨p, m, rfl, _⟩ := h; exact hl.symm
  · obtain ⟨p, m, rfl, e, m0, m1, k⟩ := h
    obtain ⟨a, b, b0, b1, o⟩ := pot_get ok e
    refine ⟨upd H p (.lst [.int a, .int b]), .upd e rfl rfl, hok_retell ok e rfl (o _), p, m, a, b, rfl, upd_same, b0, b1, m0, m1, fun d a' b' H' d0 d1 c0 c1 ks e' hp' ok' => ?_⟩
    refine ⟨upd H' p (PotO p), .upd e' rfl rfl, hok_retell ok' e' rfl (pot_ok c0 c1 (ok' _ _ e') _), k d _ d0 d1 fun q u hq => ?_⟩
    by_cases z : q = p
    · subst z; rw [e] at hq; cases hq; exact upd_same
    · rw [upd_ne z]; exact ks q u z (by rw [upd_ne z]; exact hq)
def spPot0 (K : PySem.W.Frag) : Sp := fun vs H Q _ => ∃ (s : Addr) (ns : List Int) (i : Nat), vs = [.ref s, .int i] ∧ SqL K H s (ns.map V.int) ∧ ns.length ≤ 63 ∧ i < 1000 ∧
  ∀ a b p H', 0 ≤ b → b < 2147483648 → H p = none → Same H H' → H' p = some (.lst [.int a, .int b]) → Q (.ref p) H'
def spPot (K : PySem.W.Frag) : Sp := fun vs H Q _ => ∃ (s : Addr) (ns : List Int) (i : Nat), vs = [.ref s, .int i] ∧ SqL K H s (ns.map V.int) ∧ ns.length ≤ 63 ∧ i < 1000 ∧
  ∀ p H', H p = none → Same H H' → H' p = some (PotO p) → Q (.ref p) H'
theorem pot_up {P : Program} {w : World} {K : PySem.W.Frag} {mg : Str → Option Value} {base : Heap} {x : Str} {ps : List Str} {k : Nat} (D : Df P w K mg base k x ps (spPot0 K)) (hl : ps.length = 2) : Df P w K mg base k x ps (spPot K) := by
  refine D.retell (fun vs H Q E h => ?_) fun vs H Q E hp h ok => ?_
  · obtain ⟨s, ns, i, rfl, _⟩ := h; exact hl.symm
  · obtain ⟨s, ns, i, rfl, hs, l, i1, k⟩ := h
    refine ⟨H, .refl, ok, s, ns, i, rfl, hs, l, i1, fun a b p H' b0 b1 np sm e hp' ok' => ?_⟩
    refine ⟨upd H' p (PotO p), .upd e rfl rfl, hok_retell ok' e rfl (pot_ok b0 b1 (ok' _ _ e) _), k p _ np (fun q u hq => ?_) upd_same⟩
    rw [upd_ne (ne_of_none hq np)]
    exact sm q u hq
theorem pe_con1 {X : Cx} {x : Str} {v : V} {pos : Pos} (h : ∃ u, X.mg x = some u ∧ RelV v u) (hg : Gl X x := by rfl) (hdb : (x == ("__debug__" : Str)) = false := by decide) : PE X (.Name x pos) (tC v) := by
  obtain ⟨u, e, r⟩ := h
  exact pe_glob hg e r (hd := hdb)
theorem Same.new {H : Hp} {p : Addr} {o : HO} (h : H p = none) : Same H (upd H p o) := fun a u e => by
  rw [upd_ne (ne_of_none e h)]; exact e
theorem Same.mut {H H' : Hp} {p : Addr} {o : HO} (e : Same H H') (h : H p = none) : Same H (upd H' p o) := fun a u ha => by
  rw [upd_ne (ne_of_none ha h)]; exact e a u ha
theorem same_t {K : PySem.W.Frag} {H H' : Hp} {a : Addr} {xs : List V} (e : Same H H') (h : SqT K H a xs) : SqT K H' a xs := by
  rcases h with (h | ⟨o, h⟩) | h
  · exact .inl (.inl (e _ _ h))
  · exact .inl (.inr ⟨o, e _ _ h⟩)
  · exact .inr h
theorem divs_ok {a m : Int} (m0 : 0 < m) (h : m < 2 ^ 200) : Builtin.divisionGoesByPylong a m = false := by
  have e : m.natAbs < 2 ^ 200 := by omega
  have e2 : m.natAbs.log2 < 200 := (Nat.log2_lt (by omega)).mpr e
  show (decide ((if m == 0 then 0 else m.natAbs.log2 / 30 + 1) > 300) && _) = false
  rw [if_neg (show ¬ (m == 0) = true by simpa using (show m ≠ 0 by omega))]
  rw [decide_eq_false (by omega)]
  rfl
end Lay

set_option Elab.async false
set_option linter.all false
set_option maxRecDepth 100000
set_option maxHeartbeats 4000000
namespace PySem
namespace Exv
open Builtin Builtin.ObjectAttr
section
variable {prog : Program} {w : World} {A : Around} {E : Value → Shared → Prop} {R : Result → Shared → Prop}
variable {h : Heap} {g : Array GenState} {d : Drawn} {t : Nat} {os : OsState}
variable {nm q : Str} {C N : Addr} {bs bm bmB : List Value} {hdct : Bool} {sn : List Str} {sub : List Value}
variable {ab : Bool} {col : Option Bool} {dd : Option Addr} {k0 k1 k2 k3 k5 : Option Value} {B newId initId : String}

theorem chk_kw {M : Model} (F : ExcBaseFacts B newId initId bmB) (hT : ∀ X : String, bm.contains (.type X) = bmB.contains (.type X))
    {rest : List Value} {kw : List (Str × Value)} {Q : Unit → Shared → Prop}
    (hC : h.get? C = some (excClassObj nm q C N bs bm hdct sn sub ab col dd k0 k1 k2 k3 k5 newId))
    (hq : Q () ⟨h, g, d, t, os⟩) : wpAny M A (checkBuiltinCall newId ⟨.ref C :: rest, kw⟩) Q E ⟨h, g, d, t, os⟩ := by
  have hcont : (Value.ref C :: bm).contains (.type B) = true := by rw [List.contains_cons, hT, F.hasB, Bool.or_true]
  have hstar := F.noStar
  simp only [checkBuiltinCall, F.newKind, F.newSplit, F.newRow]
  repeat (first
    | refine wpAny_loadPart_at hC ?_
    | (refine wpAny_isSubtype_exc hC ?_; rw [hcont])
    | refine wpAny_staticBase_exc hC ?_
    | refine wpAny_madeBy_exc hC ?_
    | simp only [bne_self_eq_false, Bool.false_eq_true, if_false]
    | wp_step)
  exact hq

theorem new_kw (F : ExcBaseFacts B newId initId bmB) (hT : ∀ X : String, bm.contains (.type X) = bmB.contains (.type X))
    {rest : List Value} {kw : List (Str × Value)}
    (hC : h.get? C = some (excClassObj nm q C N bs bm hdct sn sub ab col dd k0 k1 k2 k3 k5 newId))
    (hq : R (.ok (.ret (.ref (h.objs.size + 1))))
      ⟨(h.push (W.kdv_tup rest)).push (HandSPX.excO C h.objs.size), g, d, t, os⟩)
    (hrest : rest.length ≤ sizeLine) :
    codeAny (model prog w) A (.builtin newId ⟨.ref C :: rest, kw⟩) R ⟨h, g, d, t, os⟩ := by
  have z1 := F.ends
  have z2 : (Value.ref C :: bm).contains (.type B) = true := by rw [List.contains_cons, hT, F.hasB, Bool.or_true]
  have z3 : (Value.ref C :: bm).contains (.type "AttributeError") = false := by
    rw [List.contains_cons, hT, F.noAttr]
    rfl
  have z4 : (Value.ref C :: bm).contains (.type "NameError") = false := by
    rw [List.contains_cons, hT, F.noName]
    rfl
  refine codeAny_builtinAt F.entry ?_
  unfold Builtin.«BaseException.__new__»
  refine wpAt_bind ?_
  show wpAt _ _ _ (stack >>= _) _ _ _
  refine wpAt_bind (wpAt_stack fun p below => wpAt_of_wpAny ?_)
  wp_walk
  refine wpAt_of_wpAny ?_
  rw [F.owner]
  repeat (first
    | with_reducible refine wpAny_madeHere_exc F.canon hC ?_
    | with_reducible refine wpAny_loadPart_at hC ?_
    | (with_reducible refine wpAny_isSubtype_exc hC ?_; first | rw [z2] | rw [z3] | rw [z4])
    | wp_step)
  show R _ _
  rw [Heap.size_push]
  exact hq

theorem tcall_kw (F : ExcBaseFacts B newId initId bmB) (hT : ∀ X : String, bm.contains (.type X) = bmB.contains (.type X))
    {rest : List Value} {kw : List (Str × Value)} {fI : Addr} {Q : Fin → Shared → Prop}
    (hC : h.get? C = some (excClassObj nm q C N bs bm hdct sn sub ab col dd k0 k1 k2 k3 k5 newId))
    (hi : W.Looks (model prog w) h (typeLookup (.ref C) "__init__") (some (.ref fI)))
    (hb : ∀ self, W.Looks (model prog w) h (bindSpecial (.ref fI) self) (.ref fI, [self])) (hrest : rest.length ≤ sizeLine)
    (hq : codeAny (model prog w) A (.call (.ref fI) ⟨.ref (h.objs.size + 1) :: rest, kw⟩)
      (fun r s' => match r with
        | .ok (.ret v) => v = .none ∧ Q (.done (.ret (.ref (h.objs.size + 1)))) s'
        | .ok _ => False
        | .error e => E e s')
      ⟨(h.push (W.kdv_tup rest)).push (HandSPX.excO C h.objs.size), g, d, t, os⟩) :
    wpAny (model prog w) A (Builtin.«type.__call__» ⟨.ref C :: rest, kw⟩) Q E ⟨h, g, d, t, os⟩ := by
  repeat (first
    | with_reducible refine wpAny_loadPart_at hC ?_
    | with_reducible refine wpAny_madeBy_exc hC ?_
    | wp_step)
  refine codeAny_call_builtin_code (Code.quiet_builtin _ F.quiet) (chk_kw F hT hC ?_)
  refine new_kw F hT hC ?_ hrest
  show wpAny _ _ _ _ _ _
  have kk : ∀ b o, h.get? b = some o → ((h.push (W.kdv_tup rest)).push (HandSPX.excO C h.objs.size)).get? b = some o :=
    fun b o e => Heap.get?_push_of_some _ (Heap.get?_push_of_some _ e)
  have c1 := kk _ _ hC
  have c2 : ((h.push (W.kdv_tup rest)).push (HandSPX.excO C h.objs.size)).get? (h.objs.size + 1) = some (HandSPX.excO C h.objs.size) := by heap_get
  have c3 : (Value.ref C :: bm).contains (.ref C) = true := by simp
  have i1 := hi.keeps kk
  have b1 := (hb (.ref (h.objs.size + 1))).keeps kk
  unfold isInstance
  repeat (first
    | with_reducible refine wpAny_loadPart_at c2 ?_
    | (with_reducible refine wpAny_isSubtype_exc c1 ?_; rw [c3])
    | wp_step)
  show wpAny _ _ (typeLookup (.ref C) _) _ _ _
  refine i1.at ?_
  refine wpAny_holding (wpAny_bind (b1.at ?_))
  refine wpAny_bind (wpAny_call (codeAny_mono hq fun r s' z => ?_))
  rcases r with e | (v | _ | _ | _) <;> first | exact z | exact z.elim | skip
  obtain ⟨rfl, z⟩ := z
  first
    | exact wpAny_pure (wpAny_pure z)
    | (wp_walk; exact z)

theorem chkt_kw {M : Model} {rest : List Value} {kw : List (Str × Value)} {Q : Unit → Shared → Prop}
    (hC : h.get? C = some (excClassObj nm q C N bs bm hdct sn sub ab col dd k0 k1 k2 k3 k5 newId))
    (hq : Q () ⟨h, g, d, t, os⟩) : wpAny M A (checkBuiltinCall "type.__call__" ⟨.ref C :: rest, kw⟩) Q E ⟨h, g, d, t, os⟩ := by
  have f3 := tc_sub
  have hT : (⟨h, g, d, t, os⟩ : Shared).TypeIs (.ref C) "type" := ⟨_, hC, rfl⟩
  simp only [checkBuiltinCall, tc_kind, tc_split]
  repeat (any_goals (first
    | assumption
    | with_reducible refine wpAny_loadPart_at hC ?_
    | with_reducible refine wpAny_onRaise ?_
    | with_reducible refine wpAny_map ?_
    | wp_step))

theorem call_kw (F : ExcBaseFacts B newId initId bmB) (hT : ∀ X : String, bm.contains (.type X) = bmB.contains (.type X))
    {rest : List Value} {kw : List (Str × Value)} {fI : Addr}
    (hC : h.get? C = some (excClassObj nm q C N bs bm hdct sn sub ab col dd k0 k1 k2 k3 k5 newId))
    (hi : W.Looks (model prog w) h (typeLookup (.ref C) "__init__") (some (.ref fI)))
    (hb : ∀ self, W.Looks (model prog w) h (bindSpecial (.ref fI) self) (.ref fI, [self])) (hrest : rest.length ≤ sizeLine)
    (hq : codeAny (model prog w) (A.under (.builtin "type.__call__" ⟨.ref C :: rest, kw⟩))
      (.call (.ref fI) ⟨.ref (h.objs.size + 1) :: rest, kw⟩) (W.InitBack (h.objs.size + 1) R)
      ⟨(h.push (W.kdv_tup rest)).push (HandSPX.excO C h.objs.size), g, d, t, os⟩) :
    codeAny (model prog w) A (.call (.ref C) ⟨rest, kw⟩) R ⟨h, g, d, t, os⟩ := by
  have f1 := tc_lookup
  have f2 := tc_bind (.ref C)
  have hTy : (⟨h, g, d, t, os⟩ : Shared).TypeIs (.ref C) "type" := ⟨_, hC, rfl⟩
  refine codeAny_of_tree ?_
  show wpAny _ _ (callAny (.ref C) _) _ _ _
  repeat (any_goals (first
    | assumption
    | with_reducible refine wpAny_loadPart_at hC ?_
    | wp_step))
  refine ⟨rfl, ?_⟩
  refine codeAny_call_builtin_at (Code.quiet_builtin _ (by decide +kernel)) entry_typeCall (chkt_kw hC (tcall_kw F hT hC hi hb hrest ?_))
  refine codeAny_mono hq fun r s' z => ?_
  rcases r with e | (v | _ | _ | _) <;> exact z
end
end Exv
end PySem

set_option Elab.async false
set_option linter.all false
set_option maxRecDepth 100000
set_option maxHeartbeats 4000000
namespace PySem
namespace Exv
open Builtin Builtin.ObjectAttr
section
variable {prog : Program} {w : World} {A : Around} {E : Value → Shared → Prop} {R : Result → Shared → Prop}
variable {hp : Heap} {g : Array GenState} {d : Drawn} {t : Nat} {os : OsState} {B : String} {bmB : List Value}

/-- the ends that both stores share: what comes ahead of the store into the own dict -/
theorem osa_head {K : W.Frag} {name : Str} {tk : Tok} {v : Value} {x C : Addr} {ox : Obj} {od : Option Obj} {cd : ClassData} {bm : List Value}
    (SF : StoreFacts B bmB "object.__setattr__" "object") (X : K.In hp) (I : W.InstAt hp x ox C od) (hcd : W.clsIn K C = some cd)
    (hm : cd.mro = .ref C :: bm) (ht : W.excTail bmB bm = true) (ha : W.findIn K (.ref C) name = some none)
    (hq : wpAny (model prog w) A.in1 (storeInOwnDict (.ref x) (.ref C) (.str name tk) name v false)
      (fun fin s' => match fin with | .done f => R (.ok f) s' | .again c' => c'.quiet = true ∧ codeAny (model prog w) A c' R s')
      (fun e s' => R (.error e) s') ⟨hp, g, d, t, os⟩) :
    codeAny (model prog w) A (.call (.builtin "object.__setattr__") ⟨[.ref x, .str name tk, v], []⟩) R ⟨hp, g, d, t, os⟩ := by
  have ob : cd.mro.contains (.type "object") = true := by
    rw [hm, List.contains_cons, W.excTail_contains "object" _ ht, SF.hasOwner, Bool.or_true]
  have ne : cd.mro.isEmpty = false := by rw [hm]; rfl
  have sub : W.Looks (model prog w) hp (isInstance (.ref x) (.type "object")) true :=
    I.type.andThen (W.looks_mroIn X (by unfold W.mroIn; rw [hcd, Option.bind_some, if_neg (by rw [ne]; decide), ob]))
  refine codeAny_call_builtin SF.slot.plain SF.entry
    (@W.check_slot (model prog w) _ _ ⟨hp, g, d, t, os⟩ "object.__setattr__" "object" "__setattr__" (.ref x) [.str name tk, v] [] _
      SF.kind SF.split sub (SF.args (.ref x) (.str name tk) v) ?_)
  have l1 : W.Looks (model prog w) hp (mroOf (.ref C)) cd.mro := (W.looks_clsIn X hcd).andThen .now
  have l3 : W.Looks (model prog w) hp (storeTaker? none) none := .now
  rw [W.osa_eq, refuse_eq]
  refine wpAny_bind (wpAny_bind (I.type.at (wpAny_bind (l1.at ?_))))
  rw [hm, refuseLoop_ref, W.excTail_pass _ (SF.passes _) _ ht]
  refine wpAny_pure (wpAny_bind (I.type.at (wpAny_bind ((W.looks_findIn X ha).at (wpAny_bind (l3.at ?_))))))
  exact hq

/-- the first field of an exception -/
theorem osa_new {K : W.Frag} {name : Str} {tk : Tok} {v : Value} {x C : Addr} {fv : Array Value} {cd : ClassData} {bm : List Value}
    (SF : StoreFacts B bmB "object.__setattr__" "object") (X : K.In hp)
    (hx : hp.get? x = some { cls := .ref C, data := .fields fv }) (hcd : W.clsIn K C = some cd)
    (hm : cd.mro = .ref C :: bm) (ht : W.excTail bmB bm = true) (hh : cd.hasDict = true) (ha : W.findIn K (.ref C) name = some none)
    (hq : ∀ h' tk' dx, (∀ b o, b ≠ x → hp.get? b = some o → h'.get? b = some o) → hp.objs.size ≤ dx → dx ≠ x →
      h'.get? x = some { cls := .ref C, dict := some dx, data := .fields fv } →
      h'.Ns1 dx (fun y => if y = name then some v else none) → R (.ok (.ret .none)) ⟨h', g, d, tk', os⟩) :
    codeAny (model prog w) A (.call (.builtin "object.__setattr__") ⟨[.ref x, .str name tk, v], []⟩) R ⟨hp, g, d, t, os⟩ := by
  have I : W.InstAt hp x { cls := .ref C, data := .fields fv } C none := ⟨hx, rfl, rfl, trivial⟩
  have hxs : x ≠ hp.objs.size := Nat.ne_of_lt (Heap.lt_size hx)
  have hcls : W.Looks (model prog w) hp (classData C) cd := W.looks_clsIn X hcd
  refine osa_head SF X I hcd hm ht ha ?_
  obtain ⟨nm, bs, mro, ns, qn, hd, sn, sb, ab, col, del⟩ := cd
  dsimp only at hh
  subst hh
  unfold storeInOwnDict ownDictForStores
  repeat (first
    | with_reducible refine HandSPX.store_in_new ?_ ?_
    | with_reducible refine wpAny_loadPart_at hx ?_
    | with_reducible refine hcls.at ?_
    | wp_step)
  · exact ⟨_, #[], _, (Heap.get?_update_ne _ _ _ _ hxs.symm).trans (Heap.get?_push_at rfl rfl), rfl, fun e he => absurd he (by simp), fun _ => rfl⟩
  · intro h' tk' hn' hs
    have h1 : (hp.push { cls := .type "dict", data := .dict #[] }).get? x = some { cls := .ref C, data := .fields fv } := by
      exact Heap.get?_push_of_some _ hx
    refine hq h' tk' hp.objs.size (fun b o hb ho => ?_) (Nat.le_refl _) hxs.symm ?_ hn'
    · have e1 := hs.2 b (Nat.ne_of_lt (Heap.lt_size ho))
      exact e1.trans ((Heap.get?_update_ne _ _ _ _ hb).trans (Heap.get?_push_of_some _ ho))
    · have e1 := hs.2 x hxs
      exact e1.trans (Heap.get?_update_self _ h1 rfl)

/-- a further field -/
theorem osa_more {K : W.Frag} {name : Str} {tk : Tok} {v : Value} {x C dx : Addr} {fv : Array Value} {cd : ClassData} {bm : List Value}
    {m0 : Str → Option Value} {nl : List Str} (SF : StoreFacts B bmB "object.__setattr__" "object") (X : K.In hp)
    (hx : hp.get? x = some { cls := .ref C, dict := some dx, data := .fields fv }) (hns : hp.Ns1 dx m0) (hw : Within m0 nl) (hz : nl.length ≤ 1000)
    (hcd : W.clsIn K C = some cd) (hm : cd.mro = .ref C :: bm) (ht : W.excTail bmB bm = true) (hh : cd.hasDict = true) (ha : W.findIn K (.ref C) name = some none)
    (hq : ∀ h' tk', (∀ b o, b ≠ dx → hp.get? b = some o → h'.get? b = some o) →
      h'.Ns1 dx (fun y => if y = name then some v else m0 y) → R (.ok (.ret .none)) ⟨h', g, d, tk', os⟩) :
    codeAny (model prog w) A (.call (.builtin "object.__setattr__") ⟨[.ref x, .str name tk, v], []⟩) R ⟨hp, g, d, t, os⟩ := by
  obtain ⟨oD, esD, epD, hoD, hdD, _⟩ := hns.count hw
  have I : W.InstAt hp x { cls := .ref C, dict := some dx, data := .fields fv } C (some oD) := ⟨hx, rfl, rfl, hoD⟩
  have hcls : W.Looks (model prog w) hp (classData C) cd := W.looks_clsIn X hcd
  refine osa_head SF X I hcd hm ht ha ?_
  obtain ⟨nm, bs, mro, ns, qn, hd, sn, sb, ab, col, del⟩ := cd
  dsimp only at hh
  subst hh
  unfold storeInOwnDict ownDictForStores
  repeat (first
    | with_reducible refine OEX.store_in_old hns hw hz ?_
    | with_reducible refine wpAny_loadPart_at hx ?_
    | with_reducible refine hcls.at ?_
    | wp_step)
  intro h' tk' hn' hs
  exact hq h' tk' (fun b o hb ho => (hs.2 b hb).trans ho) hn'
end
end Exv
end PySem

namespace Exv
open PySem L2 Lay PyProof.Rows
/-- a built-in base class of errors, as the library tells it -/
structure Bs (B newId initId : String) (bmB : List Value) : Prop where
  fb : ExcBaseFacts B newId initId bmB
  sf : StoreFacts B bmB "object.__setattr__" "object"
theorem bsV : Bs "ValueError" "ValueError.__new__" "ValueError.__init__" [.type "ValueError", .type "Exception", .type "BaseException", .type "object"] := ⟨F.excBase_ValueError, F.store_ValueError⟩
theorem bsL : Bs "LookupError" "LookupError.__new__" "LookupError.__init__" [.type "LookupError", .type "Exception", .type "BaseException", .type "object"] := ⟨F.excBase_LookupError, F.store_LookupError⟩
theorem bsR : Bs "RuntimeError" "RuntimeError.__new__" "RuntimeError.__init__" [.type "RuntimeError", .type "Exception", .type "BaseException", .type "object"] := ⟨F.excBase_RuntimeError, F.store_RuntimeError⟩
theorem bsA : Bs "ArithmeticError" "ArithmeticError.__new__" "ArithmeticError.__init__" [.type "ArithmeticError", .type "Exception", .type "BaseException", .type "object"] := ⟨F.excBase_ArithmeticError, F.store_ArithmeticError⟩

/-- an error of the class at C: its own dict (none as yet), the tuple of what it was made of -/
def exo (e C : Addr) (d : Option Addr) (t : Addr) : HO :=
  .ext fun h => h.get? e = some ({ cls := .ref C, dict := d, data := .fields #[.ref t, .none, .none, .none, .bool false, .none] } : Obj)
theorem exo_ok {P : Program} {w : World} {H : Hp} {h : Heap} {e C t : Addr} {d : Option Addr}
    (he : h.get? e = some ({ cls := .ref C, dict := d, data := .fields #[.ref t, .none, .none, .none, .bool false, .none] } : Obj)) : ObjOk P w H h e (exo e C d t) :=
  ⟨he, ⟨_, he⟩, fun _ _ _ k => k _ ‹_›⟩
theorem exo_at {P : Program} {w : World} {H : Hp} {h : Heap} {e C t : Addr} {d : Option Addr} (ok : HOk P w H h) (x : H e = some (exo e C d t)) :
    h.get? e = some ({ cls := .ref C, dict := d, data := .fields #[.ref t, .none, .none, .none, .bool false, .none] } : Obj) := by
  have y : ObjOk P w H h e (.ext fun h => h.get? e = some ({ cls := .ref C, dict := d, data := .fields #[.ref t, .none, .none, .none, .bool false, .none] } : Obj)) := ok e _ x
  exact y.1
theorem exo_plain {e C t : Addr} {d : Option Addr} : plainO (exo e C d t) = true := rfl
theorem exd_plain {e : Addr} {fs : List (Str × V)} : plainO (exd e fs) = true := rfl
/-- what the written part says of an error's class -/
structure Cl (K : PySem.W.Frag) (C : Addr) (newId : String) (bmB : List Value) : Prop where
  cls : ∃ nm q N bs bm sn sub ab col dd k0 k1 k2 k3 k5, K.lookup C = some (excClassObj nm q C N bs bm true sn sub ab col dd k0 k1 k2 k3 k5 newId) ∧ PySem.W.excTail bmB bm = true
  sa : PySem.W.findIn K (.ref C) "__setattr__" = some (some (.builtin "object.__setattr__"))
  ga : PySem.W.findIn K (.ref C) "__getattribute__" = some (some (.builtin "BaseException.__getattribute__"))
  gg : PySem.W.findIn K (.ref C) "__getattr__" = some none
  exC : PySem.W.subIn K (.ref C) (.type "BaseException") = some true
  tyC : PySem.W.typeIn K (.ref C) = some (.type "type")
  kC : PySem.W.keepIn K (.ref C) = true
  hd : PySem.W.hasDictIn K C = true
  ha : PySem.W.findIn K (.ref C) "__class__" = some (some (.builtin "object.__class__"))
  hm : PySem.W.mroIn K C (.type "object") = some true
section
variable {X : Cx} {pins : List (Addr × Obj)} {σ : L2.St} {H : Hp} {s : Shared} {a C dx t1 : Addr} {f : Str} {y : V} {u : Value} {fs : List (Str × V)}
variable {Q : Unit → Shared → Prop} {E : Value → Shared → Prop} {A : Around} {B newId initId : String} {bmB : List Value}
theorem plain_ne_own {o : HO} (p : plainO o = true) {x : Addr} (e : H a = some o) {c : Addr} (z : H c = some (.own x)) : c ≠ a := fun q => by
  subst q; rw [e] at z; cases z; cases p
theorem plain_ne_tup {o : HO} (p : plainO o = true) {xs : List V} (e : H a = some o) {c : Addr} (z : H c = some (.tup xs)) : c ≠ a := fun q => by
  subst q; rw [e] at z; cases z; cases p
theorem plain_ne_frz {o : HO} (p : plainO o = true) {ob : Obj} {v : HO} (e : H a = some o) {c : Addr} (z : H c = some (.frz ob v)) : c ≠ a := fun q => by
  subst q; rw [e] at z; cases z; cases p
theorem plain_ne_tbl {o : HO} (p : plainO o = true) {ps : Array Value} (e : H a = some o) {c : Addr} (z : H c = some (.tbl ps)) : c ≠ a := fun q => by
  subst q; rw [e] at z; cases z; cases p
theorem Cl.cd (T : Cl X.K C newId bmB) : ∃ cd bm, PySem.W.clsIn X.K C = some cd ∧ cd.mro = .ref C :: bm ∧ PySem.W.excTail bmB bm = true ∧ cd.hasDict = true := by
  obtain ⟨nm, q, N, bs, bm, sn, sub, ab, col, dd, k0, k1, k2, k3, k5, hC, hbm⟩ := T.cls
  refine ⟨{ name := nm, bases := bs, mro := .ref C :: bm, ns := N, qualname := q, hasDict := true, slotNames := sn, subclasses := sub, abstract := ab, collection := col, hasDel := false }, bm, ?_, rfl, hbm, rfl⟩
  unfold PySem.W.clsIn
  rw [hC] <;> rfl
/-- self.f = y, the first one -/
theorem st_new (b : Bs B newId initId bmB) (T : Cl X.K C newId bmB) (I : Inv X pins σ H s) (e : H a = some (exo a C none t1)) (hno : PySem.W.findIn X.K (.ref C) f = some none) (ry : RelV y u)
    (h : ∀ dx s', H dx = none → dx ≠ a → Inv X pins σ (upd (upd H dx (exd dx [(f, y)])) a (exo a C (some dx) t1)) s' → Q () s') :
    wpAny (model X.prog X.w) A (setAttr (.ref a) f u) Q E s := by
  obtain ⟨cd, bm, hcl, hm, ht, hh⟩ := T.cd
  have ho := exo_at I.hok e
  obtain ⟨hp, g, d, t, os⟩ := s
  refine PySem.W.set_plain I.kIn (ox := { cls := .ref C, dict := none, data := .fields #[.ref t1, .none, .none, .none, .bool false, .none] }) (od := none) ⟨ho, rfl, rfl, trivial⟩ T.sa ?_
  refine PySem.Exv.osa_new b.sf I.kIn ho hcl hm ht hh hno (fun h' tk' dx k dn dne hx hn => ?_)
  have hnd : H dx = none := I.hok.fresh dn
  have nd : ∀ {b : Addr} {o : Obj}, hp.get? b = some o → b ≠ dx := fun {b o} q => Nat.ne_of_lt (Nat.lt_of_lt_of_le (Heap.lt_size q) dn)
  have na : ∀ {b : Addr}, H b = none → b ≠ a := fun {b} n z => by rw [z, e] at n; cases n
  have P1 := exo_plain (e := a) (C := C) (t := t1) (d := none)
  have U : Un X.fs [] H (upd (upd H dx (exd dx [(f, y)])) a (exo a C (some dx) t1)) hp h' := {
    keep := fun b o q n _ _ => k b o (na n) q
    slot := fun b o q n _ _ => ⟨o.slots, k b o (na n) q⟩
    free := fun b o q n _ => by rw [upd_ne (na n), upd_ne (nd q)]; exact n
    there := fun b o q _ => by
      by_cases hb : b = a
      · exact ⟨_, by rw [hb]; exact hx⟩
      · exact ⟨o, k b o hb q⟩
    tups := fun b xs q => by rw [upd_ne (plain_ne_tup P1 e q), upd_ne (ne_of_none q hnd)]; exact q
    frzs := fun b o v q => by rw [upd_ne (plain_ne_frz P1 e q), upd_ne (ne_of_none q hnd)]; exact q
    tbls := fun b ps q => ⟨#[], by rw [upd_ne (plain_ne_tbl P1 e q), upd_ne (ne_of_none q hnd), q]; simp⟩ }
  refine h dx _ hnd dne (I.un (t' := tk') U fun b o q => ?_)
  by_cases hb : b = a
  · subst hb; rw [upd_same] at q; cases q
    exact exo_ok hx
  · rw [upd_ne hb] at q
    by_cases hd : b = dx
    · subst hd; rw [upd_same] at q; cases q
      exact exd_ok hn (relO_put (fs := []) ry fun g => True.intro)
    · rw [upd_ne hd] at q
      refine (I.hok b o q).stay (fun c v hc z => k c v ?_ z) (fun c hc => ?_) fun c xs hc => ?_
      · rcases hc with hc | hc
        · rw [hc]; exact hb
        · exact plain_ne_own P1 e hc
      · rw [upd_ne (plain_ne_own P1 e hc), upd_ne (ne_of_none hc hnd)]; exact hc
      · rw [upd_ne (plain_ne_tup P1 e hc), upd_ne (ne_of_none hc hnd)]; exact hc
/-- self.f = y, a further one -/
theorem st_old (b : Bs B newId initId bmB) (T : Cl X.K C newId bmB) (I : Inv X pins σ H s) (e : H a = some (exo a C (some dx) t1)) (ed : H dx = some (exd dx fs)) (hl : fs.length ≤ 900)
    (hno : PySem.W.findIn X.K (.ref C) f = some none) (ry : RelV y u) (h : ∀ s', Inv X pins σ (upd H dx (exd dx ((f, y) :: fs))) s' → Q () s') :
    wpAny (model X.prog X.w) A (setAttr (.ref a) f u) Q E s := by
  obtain ⟨cd, bm, hcl, hm, ht, hh⟩ := T.cd
  have ho := exo_at I.hok e
  obtain ⟨mA, hns, rel⟩ := exd_at I.hok ed
  have hw := within_of rel
  obtain ⟨hp, g, d, t, os⟩ := s
  obtain ⟨oD, _, _, hoD, _, _⟩ := hns.count hw
  refine PySem.W.set_plain I.kIn (ox := { cls := .ref C, dict := some dx, data := .fields #[.ref t1, .none, .none, .none, .bool false, .none] }) (od := some oD) ⟨ho, rfl, rfl, hoD⟩ T.sa ?_
  refine PySem.Exv.osa_more b.sf I.kIn ho hns hw (by rw [List.length_map]; omega) hcl hm ht hh hno (fun h' tk' k hn => ?_)
  have hd : ∃ o, h'.get? dx = some o := by
    obtain ⟨o, _, _, e', _⟩ := hn
    exact ⟨o, e'⟩
  exact h _ (I.write (t' := tk') (x := dx) (e := dx) (o := exd dx ((f, y) :: fs)) (by rw [ed]; exact True.intro) (.inl rfl) k hd (exd_ok hn (relO_put ry rel)))
/-- e.f, e an error -/
theorem at_get {expr : Bool} {Q : Value → Shared → Prop} (T : Cl X.K C newId bmB) (I : Inv X pins σ H s) (e : H a = some (exo a C (some dx) t1)) (ed : H dx = some (exd dx fs)) (hf : fs.lookup f = some y)
    (hno : PySem.W.findIn X.K (.ref C) f = some none) (h : ∀ u s', RelV y u → Inv X pins σ H s' → Q u s') : wpAny (model X.prog X.w) A (getAttr (.ref a) f expr) Q E s := by
  have ho := exo_at I.hok e
  obtain ⟨mA, hns, rel⟩ := exd_at I.hok ed
  obtain ⟨od, hod, hl⟩ := lookIn_ns hns
  obtain ⟨u, hu, ru⟩ := RelO.some_of (v := y) (o := mA f) (by rw [← hf]; exact rel f)
  have J : PySem.W.InstAt s.heap a { cls := .ref C, dict := some dx, data := .fields #[.ref t1, .none, .none, .none, .bool false, .none] } C (some od) := ⟨ho, rfl, rfl, hod⟩
  exact HandSPX.exc_get I.kIn J T.ga T.gg T.exC (PySem.W.findObj_own T.hd hno rfl (by rw [hl, hu])) (handed_of ru) (h u _ ru (I.tok _))
end
end Exv

set_option Elab.async false
set_option linter.all false
set_option maxRecDepth 100000
set_option maxHeartbeats 4000000
namespace Exv
open PySem L2 Lay PyProof.Rows
/-- at a stands an error of the class at C with these fields, made of args -/
def IsExc (H : Hp) (a C : Addr) (fs : List (Str × V)) (args : List V) : Prop :=
  ∃ t, H t = some (.tup args) ∧ ((fs = [] ∧ H a = some (exo a C none t)) ∨ ∃ d, H a = some (exo a C (some d) t) ∧ H d = some (exd d fs))
theorem IsExc.same {H H' : Hp} {a C : Addr} {fs : List (Str × V)} {args : List V} (e : L2.Same H H') (h : IsExc H a C fs args) : IsExc H' a C fs args := by
  obtain ⟨t, ht, h⟩ := h
  refine ⟨t, e _ _ ht, ?_⟩
  rcases h with ⟨z, h⟩ | ⟨d, h, hd⟩
  · exact .inl ⟨z, e _ _ h⟩
  · exact .inr ⟨d, e _ _ h, e _ _ hd⟩
/-- what an error's __init__ promises: the fields mk of what it was handed -/
def spI (C : Addr) (n : Nat) (mk : List V → List (Str × V)) : Sp := fun vs H Q _ => ∃ (a t : Addr) (ws : List V), vs = .ref a :: ws ∧ ws.length = n ∧ H a = some (exo a C none t) ∧
  ∀ H', (∀ b o, b ≠ a → H b = some o → H' b = some o) →
    ((mk ws = [] ∧ H' a = some (exo a C none t)) ∨ ∃ d, H' a = some (exo a C (some d) t) ∧ H' d = some (exd d (mk ws))) → Q .non H'
section
variable {X : Cx} {pins : List (Addr × Obj)} {σ : L2.St} {H : Hp} {s : Shared} {C fI : Addr} {B newId initId : String} {bmB : List Value}
variable {k n : Nat} {fd : FuncData} {ps ks : List Str} {mk : List V → List (Str × V)} {g : List Value → List Value → List Value} {gV : List V → List V → List V}
theorem run_mk {Q : VK} {us ws : List Value} {vs zs : List V} {fs : List (Str × V)} (b : Bs B newId initId bmB) (T : Cl X.K C newId bmB)
    (hi : PySem.W.findIn X.K (.ref C) "__init__" = some (some (.ref fI))) (tI : PySem.W.typeIn X.K (.ref fI) = some (.type "function"))
    (F : FnOk X.prog X.w X.K X.mg X.base CX0 k fI fd ps (spI C n mk)) (hr : Room (k + 1) X.A) (hb : KBinds X.K fd ps ks g gV)
    (I : Inv X pins σ H s) (r : Vals vs us) (rz : Vals zs ws) (hz : us.length ≤ sizeLine)
    (hg : ∀ a, ∃ yl, gV (.ref a :: vs) zs = .ref a :: yl ∧ yl.length = n ∧ mk yl = fs)
    (h : ∀ a H2, H a = none → L2.Same H H2 → IsExc H2 a C fs vs → Q (.ref a) H2) :
    wpAny (model X.prog X.w) X.A (call (.ref C) us (ks.zip ws)) (EP X pins σ Q) X.xe s := by
  obtain ⟨nm, q, N, bs, bm, sn, sub, ab, col, dd, k0, k1, k2, k3, k5, hC, hbm⟩ := T.cls
  obtain ⟨hp, gn, dr, tk, os⟩ := s
  have n0 : H hp.objs.size = none := I.hok.fresh (Nat.le_refl _)
  have n1 : H (hp.objs.size + 1) = none := I.hok.fresh (Nat.le_succ _)
  have sz : (hp.push (PySem.W.kdv_tup us)).objs.size = hp.objs.size + 1 := Heap.size_push _ _
  have I1 : Inv X pins σ (upd H hp.objs.size (.tup vs)) ⟨hp.push (PySem.W.kdv_tup us), gn, dr, tk, os⟩ :=
    I.laid (t' := tk) (a := hp.objs.size) (o := .tup vs) (h' := hp.push (PySem.W.kdv_tup us)) (fun b o e => Heap.get?_push_of_some _ e) (Nat.le_refl _)
      ⟨by rw [r.length]; exact hz, us, r, ⟨_, Heap.get?_push_size _ rfl, rfl, _, rfl⟩⟩
  have hget : ((hp.push (PySem.W.kdv_tup us)).push (PySem.HandSPX.excO C hp.objs.size)).get? (hp.objs.size + 1) = some (PySem.HandSPX.excO C hp.objs.size) := by heap_get
  have I2 : Inv X pins σ (upd (upd H hp.objs.size (.tup vs)) (hp.objs.size + 1) (exo (hp.objs.size + 1) C none hp.objs.size))
      ⟨(hp.push (PySem.W.kdv_tup us)).push (PySem.HandSPX.excO C hp.objs.size), gn, dr, tk, os⟩ :=
    I1.laid (t' := tk) (a := hp.objs.size + 1) (o := exo (hp.objs.size + 1) C none hp.objs.size)
      (h' := (hp.push (PySem.W.kdv_tup us)).push (PySem.HandSPX.excO C hp.objs.size)) (fun b o e => Heap.get?_push_of_some _ e)
      (by show (hp.push (PySem.W.kdv_tup us)).objs.size ≤ _; rw [sz]; exact Nat.le_refl _) (exo_ok hget)
  obtain ⟨yl, eg, ly, em⟩ := hg (hp.objs.size + 1)
  have ne : hp.objs.size ≠ hp.objs.size + 1 := (Nat.succ_ne_self _).symm
  have hsp : spI C n mk (gV (.ref (hp.objs.size + 1) :: vs) zs) (upd (upd H hp.objs.size (.tup vs)) (hp.objs.size + 1) (exo (hp.objs.size + 1) C none hp.objs.size))
      (fun v H2 => v = .non ∧ Q (.ref (hp.objs.size + 1)) H2) E0 := by
    refine ⟨hp.objs.size + 1, hp.objs.size, yl, eg, ly, upd_same, fun H' kp hh => ⟨rfl, h _ _ n1 (fun b o e => ?_) ⟨hp.objs.size, ?_, ?_⟩⟩⟩
    · refine kp b o (ne_of_none e n1) ?_
      rw [upd_ne (ne_of_none e n1), upd_ne (ne_of_none e n0)]; exact e
    · refine kp _ _ ne ?_
      rw [upd_ne ne, upd_same]
    · rw [em] at hh; exact hh
  have r2 : Vals (gV (.ref (hp.objs.size + 1) :: vs) zs) (g (.ref (hp.objs.size + 1) :: us) ws) := hb.rel (.cons rfl r) rz
  have hl : (g (.ref (hp.objs.size + 1) :: us) ws).length = ps.length := by rw [← r2.length]; exact F.len _ _ _ _ hsp
  refine wpAny_call (PySem.Exv.call_kw b.fb (fun Y => PySem.W.excTail_contains Y bm hbm) (I.kIn _ _ hC) (PySem.W.looks_findIn I.kIn hi) (fun self => PySem.W.bind_fn I.kIn self tI) hz
    (codeAny_mono (F.run _ X.stack _ _ ⟨.ref (hp.objs.size + 1) :: us, ks.zip ws⟩ _ _ _ E0 (hr.make C us (ks.zip ws)) (I2.env0.make C us (ks.zip ws)) (hb.to _ _ _ I2.kIn hl) r2 hsp) fun rr s' hq => ?_))
  cases rr with
  | error er => exact False.elim hq
  | ok fl =>
    cases fl with
    | ret u =>
      obtain ⟨v, H', I3, rv, ev, q3⟩ := I2.after hq
      subst ev
      exact ⟨rv, ⟨V.ref (hp.objs.size + 1), H', I3, rfl, q3⟩⟩
    | next => exact False.elim hq
    | brk => exact False.elim hq
    | cont => exact False.elim hq
end

/-- a class of errors of the text: all that a call of it needs; n fields, which mk tells of what was handed to __init__ -/
structure Ec (P : Program) (w : World) (K : PySem.W.Frag) (mg : Str → Option Value) (base : Heap) (x : Str) (C : Addr) (newId : String) (bmB : List Value) (ps : List Str) (n : Nat) (mk : List V → List (Str × V)) : Prop where
  g : mg x = some (.ref C)
  cl : Cl K C newId bmB
  ini : ∃ fI fd, PySem.W.findIn K (.ref C) "__init__" = some (some (.ref fI)) ∧ PySem.W.typeIn K (.ref fI) = some (.type "function") ∧ FnOk P w K mg base CX0 1 fI fd ps (spI C n mk) ∧
    (∀ us : List Value, us.length = ps.length → bindArgs fd ⟨us, []⟩ = pure (ps.zip us)) ∧
    (∀ (s0 : Value) (ws : List Value), ws.length = n → ∀ ks : List Str, ks ++ [("self" : Str)] = ps.reverse → bindArgs fd ⟨[s0], ks.zip ws⟩ = pure (ps.zip (s0 :: ws.reverse)))
theorem kb_pos {K : PySem.W.Frag} {fd : FuncData} {ps : List Str} (h : ∀ us : List Value, us.length = ps.length → bindArgs fd ⟨us, []⟩ = pure (ps.zip us)) : KBinds K fd ps [] (fun us _ => us) (fun vs _ => vs) :=
  ⟨fun s us ws _ hl => .of_eq (h us hl), fun r _ => r⟩

section
variable {X : Cx} {x : Str} {C : Addr} {B newId initId : String} {bmB : List Value} {ps ks : List Str} {n : Nat} {mk : List V → List (Str × V)} {e : Expr} {es : List Expr} {t : TA} {p pos : Pos}
/-- C(..) -/
def tMkE (C : Addr) (n : Nat) (mk : List V → List (Str × V)) (t : TA) : TE := fun σ H Q => t σ H fun vs H1 => vs.length = n ∧ ∀ a H2, H1 a = none → L2.Same H1 H2 → IsExc H2 a C (mk vs) vs → Q (.ref a) H2
theorem pe_mk (b : Bs B newId initId bmB) (D : Ec X.prog X.w X.K X.mg X.base x C newId bmB ps n mk) (hn : n ≤ 1000) (hr : Room 2 X.A) (ha : PA X (e :: es) t) (hg : Gl X x := by rfl)
    (hdb : (x == ("__debug__" : Str)) = false := by decide) (he : starEach (e :: es) X.env = (false, eval e X.env) :: starEach es X.env := by rfl) (hpl : (backTo pos (starEach es X.env)).any (·.1) = false := by rfl) :
    PE X (.Call (.Name x p) (e :: es) [] pos) (tMkE C n mk t) := by
  obtain ⟨fI, fd, hi, tI, F, hb, _⟩ := D.ini
  refine ⟨fun pins s σ H Q I h => ?_⟩
  refine wpAny_Call_Name_kw (ld_glob I hg D.g ?_ hdb)
  refine PySem.W.callWith_K (h₀ := X.base) I.ok.mod.kin D.cl.kC (thn (ha.run pos pins s σ H _ I h) fun us s1 ⟨vs, H1, I1, r, l, q⟩ => ⟨I1.kIn, ?_⟩) he hpl
  refine run_mk (ws := []) (zs := []) b D.cl hi tI F hr (kb_pos hb) I1 r .nil ?_ (fun a => ⟨vs, rfl, l, rfl⟩) q
  rw [List.nil_append, ← r.length, l]
  exact Nat.le_trans hn (by decide)
theorem pe_mk0 (b : Bs B newId initId bmB) (D : Ec X.prog X.w X.K X.mg X.base x C newId bmB ps 0 mk) (hr : Room 2 X.A) (hg : Gl X x := by rfl)
    (hdb : (x == ("__debug__" : Str)) = false := by decide) : PE X (.Call (.Name x p) [] [] pos) (tMkE C 0 mk tNil) := by
  obtain ⟨fI, fd, hi, tI, F, hb, _⟩ := D.ini
  refine ⟨fun pins s σ H Q I h => ?_⟩
  refine wpAny_Call_Name_kw (ld_glob I hg D.g ?_ hdb)
  refine PySem.W.callWith_K0 I.kIn D.cl.kC ?_
  exact run_mk (us := []) (ws := []) (vs := []) (zs := []) b D.cl hi tI F hr (kb_pos hb) I .nil .nil (Nat.zero_le _) (fun a => ⟨[], rfl, rfl, rfl⟩) h.2
/-- C(k = v, ..): all by keywords, the last parameter first -/
def tMkK (C : Addr) (n : Nat) (mk : List V → List (Str × V)) (tk : TA) : TE := fun σ H Q => tk σ H fun zs H1 => zs.length = n ∧ ∀ a H2, H1 a = none → L2.Same H1 H2 → IsExc H2 a C (mk zs.reverse) [] → Q (.ref a) H2
theorem paired_rev {xs : List V} {us : List Value} (r : Vals xs us) : Vals xs.reverse us.reverse := by
  induction r with
  | nil => exact .nil
  | cons h t ih => rw [List.reverse_cons, List.reverse_cons]; exact ih.append (.cons h .nil)
theorem pe_mkK {kws : List Keyword} {tk : TA} (b : Bs B newId initId bmB) (D : Ec X.prog X.w X.K X.mg X.base x C newId bmB ps n mk) (hks2 : ks ++ [("self" : Str)] = ps.reverse) (hr : Room 2 X.A) (hkw : PK X kws tk) (hg : Gl X x := by rfl)
    (hall : (backToKw pos (keywordEach kws X.env)).all (·.1.isSome) = true := by rfl) (hks : (backToKw pos (keywordEach kws X.env)).filterMap (·.1) = ks := by rfl)
    (hdb : (x == ("__debug__" : Str)) = false := by decide) (hpl : ((backTo pos (starEach [] X.env)).any (·.1) || (backToKw pos (keywordEach kws X.env)).any (·.1.isNone)) = false := by rfl) :
    PE X (.Call (.Name x p) [] kws pos) (tMkK C n mk tk) := by
  obtain ⟨fI, fd, hi, tI, F, _, hb⟩ := D.ini
  have hn : ps.length = n + 1 := by
    have z := F.len (.ref 0 :: List.replicate n .non) (upd (fun _ => none) 0 (exo 0 C none 0)) (fun _ _ => True) E0 ⟨0, 0, _, rfl, List.length_replicate, upd_same, fun _ _ _ => trivial⟩
    rw [← z]; simp
  refine ⟨fun pins s σ H Q I h => ?_⟩
  refine wpAny_Call_Name_kw (ld_glob I hg D.g ?_ hdb)
  refine PySem.W.callWith_KW0 (h₀ := X.base) I.ok.mod.kin D.cl.kC hall ?_ hpl
  refine thn (hkw.run pos pins s σ H _ I h) fun ws s2 ⟨zs, H2, I2, rz, l, q2⟩ => ⟨I2.kIn, ?_⟩
  rw [hks]
  have kb : KBinds X.K fd ps ks (fun us ws => if us.length = 1 ∧ ws.length = n then us ++ ws.reverse else []) (fun vs zs => if vs.length = 1 ∧ zs.length = n then vs ++ zs.reverse else []) := by
    refine ⟨fun s us ws _ hl => ?_, fun {vs us zs ws} r rz => ?_⟩
    · by_cases c : us.length = 1 ∧ ws.length = n
      · rw [if_pos c]
        match us, c.1 with
        | [u], _ => exact .of_eq (hb u ws c.2 ks hks2)
      · rw [if_neg c, hn] at hl
        cases hl
    · have e1 : vs.length = us.length := r.length
      have e2 : zs.length = ws.length := rz.length
      show Vals (if vs.length = 1 ∧ zs.length = n then vs ++ zs.reverse else []) (if us.length = 1 ∧ ws.length = n then us ++ ws.reverse else [])
      rw [e1, e2]
      by_cases c : us.length = 1 ∧ ws.length = n
      · rw [if_pos c, if_pos c]; exact r.append (paired_rev rz)
      · rw [if_neg c, if_neg c]; exact .nil
  exact run_mk (us := []) (vs := []) b D.cl hi tI F hr kb I2 .nil rz (Nat.zero_le _) (fun a => ⟨zs.reverse, if_pos ⟨rfl, l⟩, by rw [List.length_reverse]; exact l, rfl⟩) q2
end
end Exv

set_option Elab.async false
set_option linter.all false
set_option maxRecDepth 100000
set_option maxHeartbeats 4000000
namespace PySem
namespace Exv
open PySem.W PySem.Calls PyProof.Rows
section
variable {prog : Program} {w : World} {A : Around} {E : Value → Shared → Prop} {s : Shared} {K : Frag} {x D : Addr} {ox : Obj} {od : Option Obj}
/-- the class of an error, asked as an attribute -/
theorem kin_cls {Q : Option Value → Shared → Prop} (hga : findIn K (.ref D) "__getattribute__" = some (some (.builtin "BaseException.__getattribute__")))
    (hgt : findIn K (.ref D) "__getattr__" = some none) (hsub : subIn K (.ref D) (.type "BaseException") = some true)
    (hf : findObj K D od "__class__" = some (.bind (.builtin "getset_descriptor.__get__") (.builtin "object.__class__"))) (hm : mroIn K D (.type "object") = some true)
    (X : K.In s.heap) (I : InstAt s.heap x ox D od) (h : Q (some (.ref D)) { s with toks := s.toks + 1 }) : wpAny (model prog w) A (getAttr? (.ref x) "__class__") Q E s := by
  obtain ⟨hp, g, d, t, os⟩ := s
  have l0 := I.type (M := model prog w)
  have l1 := looks_findIn (M := model prog w) X hga
  have l2 := looks_findIn (M := model prog w) X hgt
  have l3 := looks_find (M := model prog w) X I hf
  have sub : Looks (model prog w) hp (isInstance (.ref x) (.type "BaseException")) true := l0.andThen (looks_subIn X hsub)
  have z0 : (false && onTheHeap (Value.builtin "BaseException.__getattribute__")) = false := rfl
  have z2 : (Value.builtin "BaseException.__getattribute__" == Value.builtin "object.__getattribute__") = false := by decide +kernel
  have z1 : (onTheHeap (Value.ref D) && Value.builtin "BaseException.__getattribute__" == Value.builtin "object.__getattribute__") = false := by
    rw [z2]
    rfl
  unfold getAttr? getAttrBy? getAttrBy
  refine wpAny_bind (wpAny_mkText (wpAny_bind (wpAny_attempt (wpAny_holding (wpAny_bind (l0.at (wpAny_bind (l1.at ?_))))))))
  show wpAny _ _ (if (onTheHeap (Value.ref D) && Value.builtin "BaseException.__getattribute__" == Value.builtin "object.__getattribute__") = true then _ else _) _ _ _
  rw [z1, if_neg Bool.false_ne_true]
  unfold getAttrByItsOwn hookBefore
  refine wpAny_bind ?_
  rw [if_pos (show onTheHeap (Value.ref D) = true from rfl)]
  refine l2.at ?_
  refine wpAny_bind (wpAny_attempt (wpAny_holding ?_))
  unfold callGetattribute
  rw [z0, if_neg Bool.false_ne_true]
  unfold boundAndCalled
  rw [PySem.F.excAttr_ValueError.ga.bind (.ref x)]
  refine wpAny_bind (wpAny_pure ?_)
  show wpAny _ _ (call (.builtin "BaseException.__getattribute__") [.ref x, .str "__class__" t]) _ _ _
  refine wpAny_call (codeAny_call_builtin PySem.F.excAttr_ValueError.ga.plain PySem.F.entry_bexc_ga ?_)
  refine @check_slot (model prog w) _ _ ⟨hp, g, d, t + 1, os⟩ "BaseException.__getattribute__" "BaseException" "__getattribute__" (.ref x) [.str "__class__" t] [] _
    (by decide +kernel) (by decide +kernel) sub (PySem.F.args_bexc_ga (.ref x) (.str "__class__" t)) ?_
  unfold Builtin.«object.__getattribute__»
  refine wpAny_bind (wpAny_of_eq (a := ((Value.ref x : Value), [Value.str "__class__" t])) (by first | rfl | (simp only [slotArgs]; rfl)) ?_)
  refine wpAny_bind (wpAny_pure (wpAny_bind (l0.at (wpAny_bind (l3.at ?_)))))
  show wpAny _ _ (holding [Value.builtin "object.__class__"] (call (.builtin "getset_descriptor.__get__") [.builtin "object.__class__", .ref x, .ref D]) >>= ret) _ _ _
  refine wpAny_bind (wpAny_holding (wpAny_call (class_get (s := ⟨hp, g, d, t + 1, os⟩) (ox := ox) (od := od) X I hm ?_)))
  refine wpAny_pure ?_
  show wpAny _ _ (handedOut (.ref D)) _ _ _
  rw [handedOut_of (v := .ref D) rfl]
  first
    | exact wpAny_pure (wpAny_pure h)
    | exact wpAny_pure h
    | exact wpAny_pure (wpAny_bind (wpAny_pure (wpAny_pure h)))
theorem kit_exc (hga : findIn K (.ref D) "__getattribute__" = some (some (.builtin "BaseException.__getattribute__")))
    (hgt : findIn K (.ref D) "__getattr__" = some none) (hsub : subIn K (.ref D) (.type "BaseException") = some true) (hd : hasDictIn K D = true)
    (hf : findObj K D od "__class__" = some (.bind (.builtin "getset_descriptor.__get__") (.builtin "object.__class__"))) (hm : mroIn K D (.type "object") = some true) :
    KitX K (.ref x) (.ref D) (fun h => InstAt h x ox D od) where
  ty := fun _ _ _ I => I.type
  it := fun _ _ X _ => by
    obtain ⟨cdD, hcD, _⟩ := any_some hd
    unfold clsIn at hcD
    split at hcD
    · rename_i c' d' cd' sl' ho
      intro A' Q' E' s' k q
      unfold isType loadHead
      exact wpAny_bind (wpAny_loadPart (k _ _ (X _ _ ho)) (wpAny_pure q))
    · cases hcD
  ne := fun h tp dd its n sl X htp => by
    obtain ⟨cdD, hcD, _⟩ := any_some hd
    refine Bool.eq_false_iff.mpr fun q => ?_
    have e : D = tp := Value.ref.inj (beq_iff_eq.mp q)
    subst e
    unfold clsIn at hcD
    split at hcD
    · rename_i c' d' cd' sl' ho
      have z := (X _ _ ho).symm.trans htp
      cases z
    · cases hcD
  ca := fun X I k => kin_cls hga hgt hsub hf hm X I k
end
end Exv
end PySem

namespace Exv
open PySem L2 Lay PyProof.Rows
/-- what isinstance asks of the written part, once -/
structure Gs (K : PySem.W.Frag) : Prop where
  hn : PySem.W.specialIn K (.builtin "object.__class__") "__get__" = some (some (.builtin "getset_descriptor.__get__"))
  ht : PySem.W.takesIn K (.builtin "object.__class__") = some true
/-- a value's kind: those of the library, or an own error -/
inductive TyE (K : PySem.W.Frag) (H : Hp) : V → Value → Prop where
  | base {x : V} {t : Value} (h : TyX K H x t) : TyE K H x t
  | exc {a C : Addr} {fs : List (Str × V)} {args : List V} {newId : String} {bmB : List Value} (h : IsExc H a C fs args) (T : Cl K C newId bmB) : TyE K H (.ref a) (.ref C)
def rIsE (K : PySem.W.Frag) : List V → Hp → VK → Prop := fun xs H Q => ∃ (x c : V) (t u : Value) (b : Bool), xs = [x, c] ∧ ClsV c u ∧ TyE K H x t ∧ PySem.W.kitOne K t u = some b ∧ Q (.bl b) H
/-- e.f, e an error -/
def tAt (K : PySem.W.Frag) (f : Str) (te : TE) : TE := fun σ H Q => te σ H fun x H1 => ∃ (a C : Addr) (fs : List (Str × V)) (args : List V) (v : V), x = .ref a ∧ IsExc H1 a C fs args ∧
  (∃ newId bmB, Cl K C newId bmB) ∧ PySem.W.findIn K (.ref C) f = some none ∧ fs.lookup f = some v ∧ Q v H1
/-- self.f = e, self an error -/
def tSt (K : PySem.W.Frag) (newId : String) (bmB : List Value) (f : Str) (to te : TE) : TS := fun D σ H => te σ H fun y H1 => to σ H1 fun x H2 => ∃ a C t1 : Addr, x = .ref a ∧ Cl K C newId bmB ∧ PySem.W.findIn K (.ref C) f = some none ∧
  ((H2 a = some (exo a C none t1) ∧ ∀ dx, H2 dx = none → dx ≠ a → D.nx σ (upd (upd H2 dx (exd dx [(f, y)])) a (exo a C (some dx) t1))) ∨
    ∃ (dx : Addr) (fs : List (Str × V)), H2 a = some (exo a C (some dx) t1) ∧ H2 dx = some (exd dx fs) ∧ fs.length ≤ 900 ∧ D.nx σ (upd H2 dx (exd dx ((f, y) :: fs))))
section
variable {X : Cx} {o e : Expr} {to te : TE} {f : Str} {p p' pos : Pos} {B newId initId : String} {bmB : List Value}
theorem ps_st (b : Bs B newId initId bmB) (ho : PE X o to) (he : PE X e te) (hs : swapsWith e (some (.Attribute o f p')) pos.line X.env = pure false := by rfl) : PS X (.Assign [.Attribute o f p'] e pos) (tSt X.K newId bmB f to te) := by
  refine ⟨fun pins s σ H D I h => ?_⟩
  refine plainObj_wpAny_Assign_Attribute (thn (he.run pins s σ H _ I h) fun v s1 ⟨y, H1, I1, r1, q1⟩ => thn (ho.run pins s1 σ H1 _ I1 q1) fun u s2 ⟨x, H2, I2, r2, a, C, t1, ex, T, hno, q⟩ => ?_) hs
  subst ex
  obtain rfl : u = Value.ref a := r2
  rcases q with ⟨ea, q⟩ | ⟨dx, fs, ea, ed, hl, q⟩
  · exact st_new b T I2 ea hno r1 fun dx s' n ne J => ⟨σ, _, J, q dx n ne⟩
  · exact st_old b T I2 ea ed hl hno r1 fun s' J => ⟨σ, _, J, q⟩
theorem pe_at (he : PE X e te) (hb : attributeBase e f X.env (eval e X.env) = eval e X.env := by rfl) : PE X (.Attribute e f pos) (tAt X.K f te) := by
  refine ⟨fun pins s σ H Q I h => ?_⟩
  refine attr_of hb (thn (he.run pins s σ H _ I h) fun u s1 ⟨x, H1, I1, rx, a, C, fs, args, v, ex, hx, ⟨newId, bmB, T⟩, hno, hl, q⟩ => ?_)
  subst ex
  obtain rfl : u = Value.ref a := rx
  obtain ⟨t, ht, hx⟩ := hx
  rcases hx with ⟨z, hx⟩ | ⟨d, hx, hd⟩
  · subst z; cases hl
  · exact at_get T I1 hx hd hl hno fun u' s2 ru J => ⟨v, H1, J, ru, q⟩
theorem call_isE (G : Gs X.K) : CallR X (.builtin "isinstance") (rIsE X.K) := by
  intro pins s σ H xs us Q I r h
  obtain ⟨x, c, t, u, b, rfl, k, ty, e, q⟩ := h
  cases ty with
  | base ty => exact call_isi pins s σ H _ us Q I r ⟨x, c, t, u, b, rfl, k, ty, e, q⟩
  | @exc a C fs args newId bmB hx T =>
    obtain ⟨u1, u2, rfl, r1, r2⟩ := vals2 r
    have e2 := k.eq r2
    subst e2
    cases (show u1 = Value.ref a from r1)
    obtain ⟨t, ht, hx⟩ := hx
    have hc : (PySem.W.clsIn X.K C).isSome = true := by
      obtain ⟨cd, bm, h1, _⟩ := T.cd
      rw [h1]; rfl
    rcases hx with ⟨z, hx⟩ | ⟨d, hx, hd⟩
    · have J : PySem.W.InstAt s.heap a _ C none := ⟨exo_at I.hok hx, rfl, rfl, trivial⟩
      exact PySem.W.kia_one (PySem.Exv.kit_exc T.ga T.gg T.exC T.hd (PySem.W.findObj_dataN hc T.ha G.hn G.ht) T.hm) I.kIn J e (fun z => nomatch z) fun tk => ⟨.bl b, H, I.tok tk, rfl, q⟩
    · obtain ⟨mA, hns, rel⟩ := exd_at I.hok hd
      obtain ⟨od, hod, hl⟩ := lookIn_ns hns
      have J : PySem.W.InstAt s.heap a _ C (some od) := ⟨exo_at I.hok hx, rfl, rfl, hod⟩
      exact PySem.W.kia_one (PySem.Exv.kit_exc T.ga T.gg T.exC T.hd (PySem.W.findObj_data hc T.ha G.hn G.ht) T.hm) I.kIn J e (fun z => nomatch z) fun tk => ⟨.bl b, H, I.tok tk, rfl, q⟩
end

/-! ### the three shapes of __init__ -/
def mk0 : List V → List (Str × V) := fun _ => []
def mk1 (f : Str) : List V → List (Str × V)
  | [v] => [(f, v)]
  | _ => []
def mk2 (f g : Str) : List V → List (Str × V)
  | [v, u] => [(g, u), (f, v)]
  | _ => []
section
variable {P : Program} {w : World} {K : PySem.W.Frag} {mg : Str → Option Value} {base : Heap} {C fI : Addr} {fd : FuncData} {qual : Str} {st : Stmt} {B newId initId : String} {bmB : List Value} {f g : Str}
theorem init0 {q : Pos} (F : Fun K "__init__" qual st fI fd) (S : FnScope ["self"] ["self"] (defScope st)) (hb : defBody st = [.Pass q]) : FnOk P w K mg base CX0 1 fI fd ["self"] (spI C 0 mk0) := by
  refine F.ok S (fun vs H Q E h => ?_) (fun cdv A outer s H vs Q E hr h => ?_)
  · obtain ⟨a, t, ws, rfl, l, _⟩ := h
    show ws.length + 1 = 1
    rw [l]
  · obtain ⟨a, t, ws, rfl, l, ha, k⟩ := h
    rw [hb]
    exact ⟨_, pss_one ps_pass, k H (fun _ _ _ e => e) (.inl ⟨rfl, ha⟩)⟩
theorem init1 {q1 q2 q3 q4 : Pos} (b : Bs B newId initId bmB) (F : Fun K "__init__" qual st fI fd) (S : FnScope ["self", f] ["self", f] (defScope st)) (hb : defBody st = [.Assign [.Attribute (.Name "self" q1) f q2] (.Name f q3) q4])
    (hd1 : (f == ("__debug__" : Str)) = false) (hd2 : (f == ("__classdict__" : Str)) = false) (T : Cl K C newId bmB) (no : PySem.W.findIn K (.ref C) f = some none)
    (hsw : ∀ env, swapsWith (.Name f q3) (some (.Attribute (.Name "self" q1) f q2)) q4.line env = pure false) : FnOk P w K mg base CX0 1 fI fd ["self", f] (spI C 1 (mk1 f)) := by
  refine F.ok S (fun vs H Q E h => ?_) (fun cdv A outer s H vs Q E hr h => ?_)
  · obtain ⟨a, t, ws, rfl, l, _⟩ := h
    show ws.length + 1 = 2
    rw [l]
  · obtain ⟨a, t, ws, rfl, l, ha, k⟩ := h
    rw [hb]
    match ws, l with
    | [v], _ =>
      refine ⟨_, pss_one (ps_st b (pe_var (i := 0) rfl ((S.par "self" (List.Mem.head _)).elim .inl fun z => .inr (.inl z))) (pe_var (i := 1) rfl ((S.par f (.tail _ (List.Mem.head _))).elim .inl fun z => .inr (.inl z)) hd1 hd2) (hsw _)), ?_⟩
      refine ⟨v, rfl, .ref a, rfl, a, C, t, rfl, T, no, .inl ⟨ha, fun dx nd ne => ?_⟩⟩
      refine k _ (fun b o n e => ?_) (.inr ⟨dx, upd_same, ?_⟩)
      · rw [upd_ne n, upd_ne (ne_of_none e nd)]; exact e
      · rw [upd_ne ne, upd_same]; rfl
theorem init2 {q1 q2 q3 q4 q5 q6 q7 q8 : Pos} (b : Bs B newId initId bmB) (F : Fun K "__init__" qual st fI fd) (S : FnScope ["self", f, g] ["self", f, g] (defScope st))
    (hb : defBody st = [.Assign [.Attribute (.Name "self" q1) f q2] (.Name f q3) q4, .Assign [.Attribute (.Name "self" q5) g q6] (.Name g q7) q8])
    (hd1 : (f == ("__debug__" : Str)) = false) (hd2 : (f == ("__classdict__" : Str)) = false) (hd3 : (g == ("__debug__" : Str)) = false) (hd4 : (g == ("__classdict__" : Str)) = false)
    (T : Cl K C newId bmB) (no : PySem.W.findIn K (.ref C) f = some none) (no2 : PySem.W.findIn K (.ref C) g = some none)
    (hsw : ∀ env, swapsWith (.Name f q3) (some (.Attribute (.Name "self" q1) f q2)) q4.line env = pure false) (hsw2 : ∀ env, swapsWith (.Name g q7) (some (.Attribute (.Name "self" q5) g q6)) q8.line env = pure false) :
    FnOk P w K mg base CX0 1 fI fd ["self", f, g] (spI C 2 (mk2 f g)) := by
  refine F.ok S (fun vs H Q E h => ?_) (fun cdv A outer s H vs Q E hr h => ?_)
  · obtain ⟨a, t, ws, rfl, l, _⟩ := h
    show ws.length + 1 = 3
    rw [l]
  · obtain ⟨a, t, ws, rfl, l, ha, k⟩ := h
    rw [hb]
    match ws, l with
    | [v, u], _ =>
      have vs := (S.par "self" (List.Mem.head _)).elim (fun z => (.inl z : Vis _ _)) fun z => .inr (.inl z)
      refine ⟨_, pss_cons (ps_st b (pe_var (i := 0) rfl ((S.par "self" (List.Mem.head _)).elim .inl fun z => .inr (.inl z))) (pe_var (i := 1) rfl ((S.par f (.tail _ (List.Mem.head _))).elim .inl fun z => .inr (.inl z)) hd1 hd2) (hsw _))
        (pss_one (ps_st b (pe_var (i := 0) rfl ((S.par "self" (List.Mem.head _)).elim .inl fun z => .inr (.inl z))) (pe_var (i := 2) rfl ((S.par g (.tail _ (.tail _ (List.Mem.head _)))).elim .inl fun z => .inr (.inl z)) hd3 hd4) (hsw2 _))), ?_⟩
      refine ⟨v, rfl, .ref a, rfl, a, C, t, rfl, T, no, .inl ⟨ha, fun dx nd ne => ?_⟩⟩
      refine ⟨u, rfl, .ref a, rfl, a, C, t, rfl, T, no2, .inr ⟨dx, _, upd_same, by rw [upd_ne ne, upd_same], by show 1 ≤ 900; decide, ?_⟩⟩
      refine k _ (fun b o n e => ?_) (.inr ⟨dx, ?_, ?_⟩)
      · rw [upd_ne (ne_of_none e nd), upd_ne n, upd_ne (ne_of_none e nd)]; exact e
      · rw [upd_ne ne.symm, upd_same]
      · rw [upd_same]; rfl
end
end Exv

set_option Elab.async false
set_option linter.all false
set_option maxRecDepth 100000
set_option maxHeartbeats 4000000
namespace PySem
namespace Exv
open Builtin Builtin.Str Builtin.BaseException Builtin.Exceptions
section
variable {prog : Program} {w : World} {A : Around} {E : Value → Shared → Prop} {K : W.Frag} {e C t0 : Addr} {hp : Heap} {g : Array GenState} {d : Drawn} {t : Nat} {os : OsState}
/-- BaseException.__repr__ of an own error that was made of other than one thing -/
theorem bexc_own {b : Nat} {Q : Fin → Shared → Prop} {ox : Obj} {od : Option Obj} {cd : ClassData} {fv : Array Value} {items : List Value} {tt : Str}
    (X : K.In hp) (I : W.InstAt hp e ox C od) (hcd : W.clsIn K C = some cd) (hd : ox.data = .fields fv) (h0 : fv[0]? = some (.ref t0))
    (ht : hp.TupAt t0 items) (hi : items.length ≠ 1) (hb : b + (Str.ofString ((cd.name.toString.cutAt '.').getLastD "")).length ≤ sizeLine)
    (hr : ∀ Q' : Str → Shared → Prop, (∀ h' tk, (∀ b o, hp.get? b = some o → h'.get? b = some o) → Q' tt ⟨h', g, d, tk, os⟩) →
      wpAny (model prog w) A (pyReprUnder (b + (Str.ofString ((cd.name.toString.cutAt '.').getLastD "")).length) (.ref t0)) Q' E ⟨hp, g, d, t, os⟩)
    (hz : (Str.ofString ((cd.name.toString.cutAt '.').getLastD "") ++ tt).length ≤ sizeLine)
    (hq : ∀ h' u tk, (∀ b o, hp.get? b = some o → h'.get? b = some o) → Q (.done (.ret (.str (Str.ofString ((cd.name.toString.cutAt '.').getLastD "") ++ tt) u))) ⟨h', g, d, tk, os⟩) :
    wpAny (model prog w) A (Builtin.bexcReprAt b ⟨[.ref e], []⟩) Q E ⟨hp, g, d, t, os⟩ := by
  have l0 := I.type (M := model prog w)
  have hcls : W.Looks (model prog w) hp (classData C) cd := W.looks_clsIn X hcd
  obtain ⟨ot, k, hto, _, htd⟩ := ht
  unfold Builtin.bexcReprAt typeNameOfWhole shownTypeOf typeNameWhole bexcArgs
  repeat (first
    | with_reducible refine l0.at ?_
    | with_reducible refine hcls.at ?_
    | with_reducible refine wpAny_field I.1 hd h0 ?_
    | with_reducible refine wpAny_seqItems hto htd ?_
    | wp_step)
  have fin : wpAny (model prog w) A (do
      let z ← pyReprUnder (b + (Str.ofString ((cd.name.toString.cutAt '.').getLastD "")).length) (.ref t0)
      retStr (Str.ofString ((cd.name.toString.cutAt '.').getLastD "") ++ z)) Q E ⟨hp, g, d, t, os⟩ := by
    refine wpAny_bind (hr _ fun h' tk kp => ?_)
    repeat wp_step
    exact hq h' _ _ kp
  have e1 : items.toArray.toList = items := by simp
  rw [e1]
  match items, hi with
  | [], _ => exact fin
  | x :: y :: r, _ => exact fin

/-- its text, within another's -/
theorem repr_exc {as : List Addr} {h0 : Heap} {dp : Nat} {ox : Obj} {od : Option Obj} {cd : ClassData} {fv : Array Value} {items : List Value} {ts : List Str}
    (X : K.In h0) (hX : ∀ hh : Heap, (∀ b o, h0.get? b = some o → hh.get? b = some o) → W.InstAt hh e ox C od) (hcd : W.clsIn K C = some cd)
    (hrp : W.findIn K (.ref C) "__repr__" = some (some (.builtin "BaseException.__repr__"))) (hsub : W.subIn K (.ref C) (.type "BaseException") = some true)
    (hd : ox.data = .fields fv) (hf : fv[0]? = some (.ref t0)) (ht : h0.TupAt t0 items) (hi : items.length ≠ 1) (hn : t0 ∉ as)
    (hk : ReprAllK prog w as h0 dp items ts) :
    ReprK prog w (t0 :: as) h0 (dp + 2) (.ref e) (Str.ofString ((cd.name.toString.cutAt '.').getLastD "") ++ tupleText ts) := by
  intro base hb A g E s Q hg hcl hu hk0 hQ
  have hl : base + ((Str.ofString ((cd.name.toString.cutAt '.').getLastD "")).length + (tupleText ts).length) ≤ sizeLine := by
    rw [← strLen_append]; exact hb
  refine wpAny_pyReprUnder_ref (by omega) ?_
  have I := hX _ hk0
  have Xs : K.In s.heap := X.keeps hk0
  have l0 := I.type (M := model prog w)
  have l1 := W.looks_findIn (M := model prog w) Xs hrp
  have bnd : ∀ self, bindSpecial (.builtin "BaseException.__repr__") self = pure (.builtin "BaseException.__repr__", [self]) := F.excStr_ValueError.repr.toG.bind
  have sub : W.Looks (model prog w) s.heap (isInstance (.ref e) (.type "BaseException")) true := l0.andThen (W.looks_subIn Xs hsub)
  obtain ⟨ot, k, hto, htc, htd⟩ := id ht
  have core : wpAny (model prog w) A (call (.builtin "BaseException.__repr__.under") [.ref e, rawInt base])
      (fun v s' => (∃ x u, v = .str x u) ∧ ∃ x u, v = .str x u ∧ Q x s') E s := by
    refine wpAny_call (codeAny_call_builtin F.plain_bexc_repr_under F.entry_bexc_repr_under ?_)
    rw [F.check_bexc_repr_under]
    refine wpAny_pure ?_
    show wpAny _ _ (reprTwin "BaseException.__repr__" Builtin.bexcReprAt ⟨[.ref e, rawInt base], []⟩) _ _ _
    rw [reprTwin_eq]
    refine wpAny_bind (@W.check_slot (model prog w) _ _ s "BaseException.__repr__" "BaseException" "__repr__" (.ref e) [] [] _ (by decide +kernel) (by decide +kernel) sub (F.args_bexc_repr _) ?_)
    obtain ⟨hp, gn, dr, tk, os⟩ := s
    refine bexc_own (K := K) (tt := tupleText ts) Xs I hcd hd hf ⟨ot, k, hk0 _ _ hto, htc, htd⟩ hi (by omega) (fun Q' hq' => ?_) (by rw [strLen_append]; omega) (fun h' u tk kp => ?_)
    · exact ReprK.tuple hto htc htd hn (by simpa using hk) _ (by omega) A.in1 g _ _ Q' (by simpa using hg) hcl (by show A.units + 1 + (dp + 1) < cLine; omega) hk0 fun h' tk kp => hq' h' tk kp
    · exact ⟨⟨_, _, rfl⟩, _, _, rfl, hQ h' tk kp⟩
  unfold pyReprObjUnder pyReprObjBy
  refine wpAny_bind (wpAny_cRoomFor (by omega) ?_)
  unfold specialOf
  refine wpAny_bind (wpAny_bind (l0.at (l1.at ?_)))
  simp only [Option.isNone_some, Bool.false_eq_true, if_false]
  refine wpAny_bind ?_
  simp only [callSpecialIfBoundBy?, bindSpecialIfBound?, specialOf]
  refine wpAny_holding (wpAny_bind (wpAny_bind (wpAny_bind (l0.at (l1.at ?_)))))
  simp only [bnd]
  refine wpAny_bind (wpAny_askSetting (wpAny_ite ?_))
  have fin : wpAny (model prog w) A (call (.builtin "BaseException.__repr__.under") [.ref e, rawInt base] >>= fun v => pure (some v))
      (fun o s' => wpAny (model prog w) A (match o with
        | some r => (do
          let b ← isInstance r (.type "str")
          if b = true then pure r else do
            let z ← typeNameOf r
            raiseErrorMade "TypeError" (toString "__repr__ returned non-string (type " ++ toString z ++ toString ")"))
        | none => unsupported "repr:special-get-raises") (fun v s' => ∃ x u, v = .str x u ∧ Q x s') E s') E s := by
    refine wpAny_bind (wpAny_mono core (fun v s' hv => wpAny_pure ?_) fun _ _ x => x)
    obtain ⟨⟨x, u, rfl⟩, hq⟩ := hv
    exact wpAny_bind (wpAny_isInstance (T := "str") (b := true) rfl isSubtype_str_str (wpAny_pure hq))
  split
  · exact wpAny_bind (wpAny_pure (wpAny_pure fin))
  · exact wpAny_tryCatch (wpAny_bind (wpAny_pure (wpAny_pure fin)))
end
end Exv
end PySem

set_option Elab.async false
set_option linter.all false
set_option maxRecDepth 100000
set_option maxHeartbeats 4000000
namespace Rp
open PySem L2 Lay Exv
/-- what an own error's class tells for its text -/
structure ClR (K : PySem.W.Frag) (C : Addr) (nm : Str) : Prop where
  cl : ∃ newId bmB, Cl K C newId bmB
  cd : ∃ cd, PySem.W.clsIn K C = some cd ∧ Str.ofString ((cd.name.toString.cutAt '.').getLastD "") = nm
  rp : PySem.W.findIn K (.ref C) "__repr__" = some (some (.builtin "BaseException.__repr__"))
mutual
/-- the text of a value, over what is tracked; the containers within -/
inductive Sw (K : PySem.W.Frag) (H : Hp) : List Addr → V → Str → Prop where
  | non : Sw K H [] .non "None"
  | bl (b : Bool) : Sw K H [] (.bl b) (if b then "True" else "False")
  | int (i : Int) (h : i.natAbs.log2 < 1920) : Sw K H [] (.int i) (toString i)
  | str (z : Str) : Sw K H [] (.str z) (reprText z)
  | lst0 {a : Addr} (h : H a = some (.lst [])) : Sw K H [] (.ref a) "[]"
  | lst {a : Addr} {as : List Addr} {x : V} {xs : List V} {ts : List Str} (h : H a = some (.lst (x :: xs))) (l : SwL K H as (x :: xs) ts) (n : a ∉ as) : Sw K H (a :: as) (.ref a) (listText ts)
  | tup {a : Addr} {as : List Addr} {xs : List V} {ts : List Str} (h : H a = some (.tup xs)) (l : SwL K H as xs ts) (n : a ∉ as) : Sw K H (a :: as) (.ref a) (tupleText ts)
  | dct {a : Addr} {as : List Addr} {kvs : List (Key × V)} {ks ts : List Str} (h : H a = some (.dK kvs)) (l1 : SwL K H [] (kvs.map fun p => kV p.1) ks) (l : SwL K H as (kvs.map (·.2)) ts) (n : a ∉ as) :
      Sw K H (a :: as) (.ref a) (dictText ((ks.zip ts).map fun p => p.1 ++ ": " ++ p.2))
  | exc {a C : Addr} {t : Addr} {as : List Addr} {xs : List V} {ts : List Str} {nm : Str} (d : Addr) {fs : List (Str × V)} (h : H a = some (exo a C (some d) t)) (hd : H d = some (exd d fs)) (ht : H t = some (.tup xs)) (R : ClR K C nm) (l : SwL K H as xs ts)
      (n : t ∉ as) (hl : xs.length ≠ 1) : Sw K H (t :: as) (.ref a) (nm ++ tupleText ts)
inductive SwL (K : PySem.W.Frag) (H : Hp) : List Addr → List V → List Str → Prop where
  | nil : SwL K H [] [] []
  | cons {as bs : List Addr} {x : V} {t : Str} {xs : List V} {ts : List Str} (h : Sw K H as x t) (l : SwL K H bs xs ts) : SwL K H (as ++ bs) (x :: xs) (t :: ts)
end
section
variable {P : Program} {w : World} {K : PySem.W.Frag} {H : Hp} {h : Heap}
theorem all_at {as : List Addr} {d : Nat} : ∀ {us : List Value} {ts : List Str}, ReprAllK P w as h d us ts → ∀ (i : Nat) (y : Value), us[i]? = some y → ∃ t, ts[i]? = some t ∧ ReprK P w as h d y t
  | _, _, .nil, i, y, e => by simp at e
  | _, _, .cons r l, 0, y, e => by simp at e; subst e; exact ⟨_, rfl, r⟩
  | _, _, .cons r l, i + 1, y, e => by
    obtain ⟨t, h1, h2⟩ := all_at l i y (by simpa using e)
    exact ⟨t, by simpa using h1, h2⟩
theorem all_more {as as' : List Addr} {d d' : Nat} (hs : ∀ b ∈ as, b ∈ as') (hd : d ≤ d') : ∀ {us : List Value} {ts : List Str}, ReprAllK P w as h d us ts → ReprAllK P w as' h d' us ts
  | _, _, .nil => .nil
  | _, _, .cons r l => .cons ((r.more hs).level_le hd) (all_more hs hd l)
theorem keys_vals : ∀ {es : List DictEntry} {vs : List (Key × Value)} {kvs : List (Key × V)}, Pairs (mixKind P w) es vs → KV kvs vs → Vals (kvs.map fun p => kV p.1) (es.map (·.key)) ∧ Vals (kvs.map (·.2)) (es.map (·.val))
  | _, _, _, .nil, .nil => ⟨.nil, .nil⟩
  | e :: es, (k, v) :: vs, (k', v') :: kvs, .cons h1 h2 l, .cons r rr => by
    obtain ⟨a, b⟩ := keys_vals l rr
    obtain ⟨e1, r1⟩ := r
    have e1' : k' = k := e1
    subst e1'
    refine ⟨.cons ?_ a, .cons (by show RelV v' e.val; rw [h2]; exact r1) b⟩
    have z : keyIs k' e.key = true := h1
    rcases keyIs_shape z with ⟨i, t, rfl, e2⟩ | ⟨x, t, rfl, e2⟩
    · exact ⟨t, e2⟩
    · exact ⟨t, e2⟩
theorem ents {as : List Addr} {d : Nat} : ∀ {es : List DictEntry} {ks ts : List Str}, ReprAllK P w as h d (es.map (·.key)) ks → ReprAllK P w as h d (es.map (·.val)) ts → ReprEntriesK P w as h d es ((ks.zip ts).map fun p => p.1 ++ ": " ++ p.2)
  | [], _, _, .nil, .nil => .nil
  | e :: es, _, _, .cons k1 l1, .cons k2 l2 => .cons k1 k2 (ents l1 l2)
theorem swl_len : ∀ {as : List Addr} {xs : List V} {ts : List Str}, SwL K H as xs ts → xs.length = ts.length
  | _, _, _, .nil => rfl
  | _, _, _, .cons _ l => by rw [List.length_cons, List.length_cons, swl_len l]
theorem mem_l {l1 l2 : List Str} (hl : l1.length = l2.length) {t : Str} (ht : t ∈ l1) : ∃ p ∈ (l1.zip l2).map (fun p => p.1 ++ (": " : Str) ++ p.2), t.length ≤ p.length := by
  obtain ⟨i, hi, e⟩ := List.getElem_of_mem ht
  refine ⟨l1[i] ++ (": " : Str) ++ l2[i], List.mem_map.mpr ⟨(l1[i], l2[i]), List.mem_iff_getElem.mpr ⟨i, by simp; omega, by simp⟩, rfl⟩, ?_⟩
  rw [← e, strLen_append, strLen_append]; omega
theorem mem_r {l1 l2 : List Str} (hl : l1.length = l2.length) {t : Str} (ht : t ∈ l2) : ∃ p ∈ (l1.zip l2).map (fun p => p.1 ++ (": " : Str) ++ p.2), t.length ≤ p.length := by
  obtain ⟨i, hi, e⟩ := List.getElem_of_mem ht
  refine ⟨l1[i] ++ (": " : Str) ++ l2[i], List.mem_map.mpr ⟨(l1[i], l2[i]), List.mem_iff_getElem.mpr ⟨i, by simp; omega, by simp⟩, rfl⟩, ?_⟩
  rw [← e, strLen_append]; omega
mutual
theorem sw_repr (ok : HOk P w H h) (X : K.In h) : ∀ {as : List Addr} {x : V} {t : Str} {u : Value}, Sw K H as x t → RelV x u → t.length ≤ sizeLine → ReprK P w as h (2 * as.length) u t
  | _, _, _, _, .non, r, _ => by cases (show _ = Value.none from r); exact .of_is ReprIs.none _ _ _
  | _, _, _, _, .bl b, r, _ => by cases (show _ = Value.bool b from r); exact .of_is (ReprIs.bool b) _ _ _
  | _, _, _, _, .int i hi, r, _ => by obtain ⟨t, e⟩ := r; subst e; exact .of_is (ReprIs.int t hi) _ _ _
  | _, _, _, _, .str z, r, hz => by obtain ⟨t, e⟩ := r; subst e; exact .of_is (ReprIs.str z t hz) _ _ _
  | _, _, _, _, .lst0 (a := a) e, r, _ => by
    cases (show _ = Value.ref a from r)
    obtain ⟨_, its, n, rv, e1⟩ := (show ObjOk P w H h a (.lst []) from ok a _ e)
    cases rv
    exact ReprK.listEmpty e1 rfl rfl
  | _, _, _, _, .lst (a := a) (as := as) (x := x) (xs := xs) (ts := ts) e l n, r, hz => by
    cases (show _ = Value.ref a from r)
    obtain ⟨_, its, m, rv, e1⟩ := (show ObjOk P w H h a (.lst (x :: xs)) from ok a _ e)
    have al := swl_repr ok X l rv (fun t ht => Nat.le_trans (listText_mem_le ht) hz)
    cases its with
    | nil => cases rv
    | cons y ys =>
      have k := ReprK.list e1 rfl rfl n (by simpa using al.length_eq) (fun i z q => all_at al i z (by simpa using q))
      exact k.level_le (by simp; omega)
  | _, _, _, _, .tup (a := a) (as := as) (xs := xs) (ts := ts) e l n, r, hz => by
    cases (show _ = Value.ref a from r)
    obtain ⟨_, its, rv, o, e1, e2, m, e3⟩ := (show ObjOk P w H h a (.tup xs) from ok a _ e)
    have al := swl_repr ok X l rv (fun t ht => Nat.le_trans (tupleText_mem_le ht) hz)
    have k := ReprK.tuple e1 e2 e3 n (by simpa using al)
    exact k.level_le (by simp; omega)
  | _, _, _, _, .dct (a := a) (as := as) (kvs := kvs) (ks := ks) (ts := ts) e l1 l n, r, hz => by
    cases (show _ = Value.ref a from r)
    obtain ⟨_, sy, vs, kv, ob, es, ep, e1, e2, e3, _, e4, _⟩ := (show ObjOk P w H h a (.dK kvs) from ok a _ e)
    obtain ⟨va, vb⟩ := keys_vals e4 kv
    have ll : ks.length = ts.length := by rw [← swl_len l1, ← swl_len l]; simp
    have a1 := swl_repr ok X l1 va (fun t ht => by
      obtain ⟨p, hp, hl⟩ := mem_l ll ht
      exact Nat.le_trans hl (Nat.le_trans (dictText_mem_le hp) hz))
    have a2 := swl_repr ok X l vb (fun t ht => by
      obtain ⟨p, hp, hl⟩ := mem_r ll ht
      exact Nat.le_trans hl (Nat.le_trans (dictText_mem_le hp) hz))
    have k := ReprK.dict e1 e2.1 e3 sy n (ents (all_more (fun b hb => absurd hb (by simp)) (by simp) a1) a2)
    exact k.level_le (by simp; omega)
  | _, _, _, _, .exc (a := a) (C := C) (t := t) (as := as) (xs := xs) (ts := ts) d e ed et R l n hl, r, hz => by
    cases (show _ = Value.ref a from r)
    obtain ⟨_, its, rv, o, e1, e2, m, e3⟩ := (show ObjOk P w H h t (.tup xs) from ok t _ et)
    obtain ⟨newId, bmB, T⟩ := R.cl
    obtain ⟨cd, hcd, hnm⟩ := R.cd
    subst hnm
    have al := swl_repr ok X l rv (fun t ht => Nat.le_trans (tupleText_mem_le ht) (Nat.le_trans (by rw [strLen_append]; exact Nat.le_add_left _ _) hz))
    have ho := exo_at ok e
    obtain ⟨mA, hns, rel⟩ := exd_at ok ed
    obtain ⟨od, hod, _⟩ := lookIn_ns hns
    have k := PySem.Exv.repr_exc (prog := P) (w := w) (e := a) (C := C) (t0 := t) X (fun hh kp => (⟨kp _ _ ho, rfl, rfl, kp _ _ hod⟩ : PySem.W.InstAt hh a _ C (some od))) hcd R.rp T.exC rfl rfl ⟨o, m, e1, e2, e3⟩ (by rw [← rv.length]; exact hl) n al
    exact k.level_le (by simp; omega)
theorem swl_repr (ok : HOk P w H h) (X : K.In h) : ∀ {as : List Addr} {xs : List V} {ts : List Str} {us : List Value}, SwL K H as xs ts → Vals xs us → (∀ t ∈ ts, t.length ≤ sizeLine) → ReprAllK P w as h (2 * as.length) us ts
  | _, _, _, _, .nil, r, _ => by cases r; exact .nil
  | _, _, _, _, .cons (as := as) (bs := bs) s l, r, hz => by
    cases r with
    | cons rx rr =>
      have k := sw_repr ok X s rx (hz _ (List.mem_cons_self ..))
      have al := swl_repr ok X l rr (fun t ht => hz t (List.mem_cons_of_mem _ ht))
      exact .cons ((k.more fun b hb => List.mem_append_left _ hb).level_le (by simp; omega)) (all_more (fun b hb => List.mem_append_right _ hb) (by simp; omega) al)
end
end
/-- repr of a list of at least one item -/
def rRepr (K : PySem.W.Frag) : List V → Hp → VK → Prop := fun xs H Q => ∃ (p : Addr) (as : List Addr) (ys : List V) (ts : List Str), xs = [.ref p] ∧ H p = some (.lst ys) ∧ SwL K H as ys ts ∧ ys ≠ [] ∧ p ∉ as ∧ as.length ≤ 30 ∧
  (listText ts).length ≤ sizeLine ∧ Q (.str (listText ts)) H
section
variable {X : Cx}
theorem call_repr (hg : X.A.guards = some []) (hu : X.A.units + 200 < cLine) : CallR X (.builtin "repr") (rRepr X.K) := by
  intro pins s σ H xs us Q I r h
  obtain ⟨p, as, ys, ts, rfl, hp, l, ne, hn, ha, hz, q⟩ := h
  obtain ⟨u, rfl, e⟩ := vals1 r
  cases (show u = Value.ref p from e)
  obtain ⟨_, its, m, rv, e1⟩ := (show ObjOk X.prog X.w H s.heap p (.lst ys) from I.hok p _ hp)
  have al := swl_repr I.hok I.kIn l rv (fun t ht => Nat.le_trans (listText_mem_le ht) hz)
  cases its with
  | nil => cases rv; exact absurd rfl ne
  | cons y yr =>
    refine call_repr_slot (by omega) ⟨_, e1, rfl⟩ F.slot_list_repr.toG ?_
    refine call_list_reprK (A := X.A.in1) e1 rfl rfl hn (by simpa using al.length_eq) (fun i z q => all_at al i z (by simpa using q)) (g := []) (by simpa using hg) (fun b _ => Clear.nil b) (by show X.A.units + 1 + (2 * as.length + 1) < cLine; omega)
      (fun _ _ e => e) (fun h' u tk kp => ⟨_, _, rfl, ⟨.str (listText ts), H, I.kept (t' := tk) kp, ⟨_, rfl⟩, q⟩⟩) hz
end
end Rp

set_option Elab.async false
set_option linter.all false
set_option maxRecDepth 100000
set_option maxHeartbeats 4000000
namespace Lay
open PySem L2
/-- a comprehension whose elements are told by themselves -/
theorem lc_pure {J : It} {n : Nat} {G : Hp → Prop} {Y : Nat → Hp → V → Hp → Prop} (wk : Walk J n G Y) {g : TG} {tt : TT} {te : TE} {vs : List Nat} {σ : L2.St} {H1 : Hp} {D : Addr} {Qd : Hp → Prop} (nD : H1 D = none) (hn : n < 100000)
    (hG : ∀ H, L2.Same H1 H → G H) (R : Nat → V → Prop)
    (hs : ∀ i x H H' (Kn : V → Hp → Prop) (Z : Hp → Prop), i < n → L2.Same H1 H → Y i H x H' → (∀ y H4, L2.Same H H4 → R i y → Kn y H4) →
      g x (wipe σ vs) H' fun σ2 H2 => wipe σ2 vs = wipe σ vs ∧ tt σ2 H2 fun b H3 => if b = true then te σ2 H3 Kn else Z H3)
    (hd : ∀ H xs, L2.Same H1 H → H D = some (.lst xs) → xs.length = n → (∀ i y, xs[i]? = some y → R i y) → Qd H) :
    ∃ W : Nat → Nat → Hp → Prop, (∃ m, W 0 m (upd H1 D (.lst []))) ∧ ∀ i m H, W i m H →
      (J.stop i H ∧ Qd H) ∨ (J.go i H ∧ ∃ Nx : Hp → Prop, (∀ H', Nx H' → ∃ m', m' < m ∧ W (i + 1) m' H') ∧ ∀ x H', J.yld i H x H' → g x (wipe σ vs) H' fun σ2 H2 => wipe σ2 vs = wipe σ vs ∧ tt σ2 H2 fun b H3 =>
        if b = true then te σ2 H3 fun y H4 => ∃ acc, H4 D = some (.lst acc) ∧ acc.length < sizeLine ∧ Nx (upd H4 D (.lst (acc ++ [y]))) else Nx H3) := by
  refine lc_it wk (fun i H => L2.Same H1 H ∧ ∃ xs, H D = some (.lst xs) ∧ xs.length = i ∧ ∀ j y, xs[j]? = some y → R j y) ?_ ?_ ?_ ?_
  · exact ⟨Same.new nD, [], upd_same, rfl, fun j y e => by simp at e⟩
  · exact fun i H _ h => hG H h.1
  · intro i x H H' hi ⟨sm, xs, hD, hl, hr⟩ y
    refine hs i x H H' _ _ hi sm y fun v H4 h4 hv => ⟨xs, h4 _ _ hD, by rw [hl]; exact Nat.lt_trans (Nat.lt_trans hi hn) (by decide), ?_⟩
    refine ⟨Same.mut (sm.trans h4) nD, xs ++ [v], upd_same, by simp [hl], fun j y e => ?_⟩
    by_cases hj : j < xs.length
    · rw [List.getElem?_append_left hj] at e
      exact hr j y e
    · rw [List.getElem?_append_right (by omega)] at e
      have hj2 : j - xs.length = 0 := by
        cases hk : j - xs.length with
        | zero => rfl
        | succ m => rw [hk] at e; simp at e
      rw [hj2] at e
      simp at e
      subst e
      have : j = i := by omega
      subst this
      exact hv
  · intro H ⟨sm, xs, hD, hl, hr⟩
    exact hd H xs sm hD hl hr
/-- all elements by a function -/
theorem eq_map {xs : List V} {n : Nat} {f : Nat → V} (hl : xs.length = n) (h : ∀ i y, xs[i]? = some y → y = f i) : xs = (List.range n).map f := by
  apply List.ext_getElem?
  intro i
  by_cases hi : i < n
  · have e := List.getElem?_eq_getElem (show i < xs.length by omega)
    rw [e, h i _ e, List.getElem?_map, List.getElem?_range hi]; rfl
  · rw [List.getElem?_eq_none (by omega), List.getElem?_eq_none (by simp; omega)]
theorem stopW {p : (Nat → Nat → L2.St → Hp → Prop) → Prop} (h : Exists p) : Exists p := h
theorem stopC {p : (Nat → Nat → Hp → Prop) → Prop} (h : Exists p) : Exists p := h
theorem un200 {k : Nat} {B : Around} (hr : Room k B) : B.units + 200 < cLine := by
  have := hr.un
  omega
end Lay

set_option Elab.async false
set_option linter.all false
set_option maxRecDepth 100000
set_option maxHeartbeats 4000000
namespace Rp
open PySem L2 Lay Exv
/-- repr of a list, empty or not -/
def rReprE (K : PySem.W.Frag) : List V → Hp → VK → Prop := fun xs H Q => rRepr K xs H Q ∨ ∃ p, xs = [.ref p] ∧ H p = some (.lst []) ∧ Q (.str "[]") H
theorem call_reprE {X : Cx} (hg : X.A.guards = some []) (hu : X.A.units + 200 < cLine) : CallR X (.builtin "repr") (rReprE X.K) := by
  intro pins s σ H xs us Q I r h
  rcases h with h | ⟨p, rfl, hp, q⟩
  · exact call_repr hg hu pins s σ H xs us Q I r h
  · obtain ⟨u, rfl, e⟩ := vals1 r
    cases (show u = Value.ref p from e)
    obtain ⟨_, its, m, rv, e1⟩ := (show ObjOk X.prog X.w H s.heap p (.lst []) from I.hok p _ hp)
    cases rv
    refine call_repr_slot (by omega) ⟨_, e1, rfl⟩ F.slot_list_repr.toG ?_
    exact call_list_repr_empty ⟨_, e1, rfl⟩ e1 rfl ⟨_, _, rfl, ⟨.str "[]", H, I.tok _, ⟨_, rfl⟩, q⟩⟩
end Rp

set_option Elab.async false
set_option linter.all false
set_option maxRecDepth 100000
namespace Sgn
open PySem PyProof.Rows
/-- the letters from a to z, as numbers -/
def abc : List Nat := (List.range 26).map (· + 97)
/-- a text's signs by the three questions -/
def signB (z : Str) : Bool := PySem.Txt.isascii z && (PySem.Txt.isalpha z && PySem.Txt.islower z)
theorem one : ∀ c, c < 128 → (Unicode.isAlpha c && !(Unicode.isUpper c || Unicode.isTitle c)) = decide (c ∈ abc) := by decide +kernel
theorem low : ∀ c, c < 128 → c ∈ abc → Unicode.isLower c = true := by decide +kernel
theorem below : ∀ c ∈ abc, c < 128 := by decide +kernel
theorem all_at {z : Str} {f : Nat → Bool} (h : z.cps.all f = true) {c : Nat} (hc : c ∈ z.cps.toList) : f c = true := by
  rw [← Array.all_toList] at h
  exact List.all_eq_true.mp h c hc
theorem signs_all {z : Str} (h : ∀ c ∈ z.cps.toList, c ∈ abc) (n : 1 ≤ z.length) : signB z = true := by
  have a1 : PySem.Txt.isascii z = true := by
    unfold PySem.Txt.isascii
    rw [← Array.all_toList, List.all_eq_true]
    exact fun c hc => decide_eq_true (below c (h c hc))
  have o := fun c (hc : c ∈ z.cps.toList) => (one c (below c (h c hc))).trans (decide_eq_true (h c hc))
  have a2 : PySem.Txt.isalpha z = true := by
    unfold PySem.Txt.isalpha
    rw [Bool.and_eq_true, ← Array.all_toList, List.all_eq_true]
    exact ⟨decide_eq_true (by omega), fun c hc => (Bool.and_eq_true _ _ ▸ o c hc : _ ∧ _).1⟩
  have a3 : PySem.Txt.islower z = true := by
    unfold PySem.Txt.islower
    rw [Bool.and_eq_true, ← Array.any_toList, ← Array.any_toList, List.any_eq_true]
    have hl : 0 < z.cps.toList.length := by rw [Array.length_toList]; exact n
    refine ⟨⟨z.cps.toList[0], List.getElem_mem hl, low _ (below _ (h _ (List.getElem_mem hl))) (h _ (List.getElem_mem hl))⟩, ?_⟩
    rw [Bool.not_eq_true', List.any_eq_false]
    intro c hc q
    have := (Bool.and_eq_true _ _ ▸ o c hc : _ ∧ _).2
    rw [q] at this
    cases this
  unfold signB
  rw [a1, a2, a3]; rfl
theorem signs_in {z : Str} (h : signB z = true) : ∀ c ∈ z.cps.toList, c ∈ abc := by
  intro c hc
  have h1 : PySem.Txt.isascii z = true := (Bool.and_eq_true _ _ ▸ h : _ ∧ _).1
  have h2 : (PySem.Txt.isalpha z && PySem.Txt.islower z) = true := (Bool.and_eq_true _ _ ▸ h : _ ∧ _).2
  have h3 : PySem.Txt.isalpha z = true := (Bool.and_eq_true _ _ ▸ h2 : _ ∧ _).1
  have h4 : PySem.Txt.islower z = true := (Bool.and_eq_true _ _ ▸ h2 : _ ∧ _).2
  have l : c < 128 := of_decide_eq_true (all_at h1 hc)
  have h5 : z.cps.all Unicode.isAlpha = true := (Bool.and_eq_true _ _ ▸ h3 : _ ∧ _).2
  have h6 : (!z.cps.any fun c => Unicode.isUpper c || Unicode.isTitle c) = true := (Bool.and_eq_true _ _ ▸ h4 : _ ∧ _).2
  have h7 : (Unicode.isUpper c || Unicode.isTitle c) = false := by
    rw [Bool.not_eq_true', ← Array.any_toList, List.any_eq_false] at h6
    exact Bool.eq_false_iff.mpr (h6 c hc)
  have := one c l
  rw [all_at h5 hc, h7] at this
  exact of_decide_eq_true this.symm
/-- the same, sign by sign -/
theorem signs_eq {z : Str} (n : 1 ≤ z.length) : signB z = ((List.range z.cps.size).map fun i => decide (z.cps.getD i 0 ∈ abc)).all id := by
  have at' : ∀ i, i < z.cps.size → z.cps.getD i 0 ∈ z.cps.toList := fun i hi => by
    rw [Array.getD_eq_getD_getElem?, Array.getElem?_eq_getElem hi]
    exact Array.getElem_mem_toList hi
  by_cases h : ∀ c ∈ z.cps.toList, c ∈ abc
  · rw [signs_all h n]
    symm
    rw [List.all_eq_true]
    intro b hb
    obtain ⟨i, hi, rfl⟩ := List.mem_map.mp hb
    exact decide_eq_true (h _ (at' i (List.mem_range.mp hi)))
  · have e : signB z = false := Bool.eq_false_iff.mpr fun q => h (signs_in q)
    rw [e]
    symm
    rw [Bool.eq_false_iff]
    intro q
    rw [List.all_eq_true] at q
    refine h fun c hc => ?_
    obtain ⟨i, hi, e⟩ := List.getElem_of_mem hc
    rw [Array.length_toList] at hi
    have := q _ (List.mem_map.mpr ⟨i, List.mem_range.mpr hi, rfl⟩)
    have := of_decide_eq_true this
    rw [Array.getD_eq_getD_getElem?, Array.getElem?_eq_getElem hi] at this
    rw [← e]
    exact this
end Sgn

set_option Elab.async false
set_option linter.all false
set_option maxRecDepth 100000
set_option maxHeartbeats 4000000
namespace PySem.W
open PySem PySem.Calls PyProof.Rows Builtin
section
variable {prog : Program} {w : World} {M : Model} {A : Around} {E : Value → Shared → Prop} {s : Shared} {K : Frag} {x C f : Addr} {ox : Obj} {od : Option Obj} {y : Value}
/-- x in o, o of an own class that says it itself -/
theorem own_contains {Q : Bool → Shared → Prop} (X : K.In s.heap) (I : InstAt s.heap x ox C od) (hs : findIn K (.ref C) "__contains__" = some (some (.ref f))) (hf : isFn K (.ref f) = true)
    (h : wpAny M A (call (.ref f) [.ref x, y]) (fun v s' => ∃ b, v = .bool b ∧ Q b s') E s) : wpAny M A (contains (.ref x) y) Q E s := by
  unfold contains
  refine wpAny_holding ?_
  simp only [stdlibNamesSay?]
  refine wpAny_bind (wpAny_bind (I.type.here ((looks_findIn X hs).here ?_)))
  rw [if_neg (by simp)]
  refine wpAny_bind (m := callSpecialUnlessNone? (.ref x) (Str.ofString "__contains__") [y] _) ?_
  unfold callSpecialUnlessNone?
  refine wpAny_bind (wpAny_bind (I.type.here ((looks_findIn X hs).here ?_)))
  refine wpAny_holding (wpAny_bind ((bind_fn X _ (beq_iff_eq.mp hf)).here ?_))
  dsimp only
  rw [if_neg (by simp)]
  refine wpAny_bind (wpAny_mono h (fun v s' hv => ?_) fun _ _ e => e)
  obtain ⟨b, rfl, hq⟩ := hv
  exact wpAny_pure (wpAny_truthy_bool hq)
/-- what own == makes of != -/
theorem own_ne {tb b : Value} {Q : Value → Shared → Prop} (hu : A.units + 1 < cLine) (X : K.In s.heap) (I : InstAt s.heap x ox C od) (hb : Looks (model prog w) s.heap (typeOf b) tb) (hn : notFirst K C tb = true)
    (hs : findIn K (.ref C) "__eq__" = some (some (.ref f))) (hf : isFn K (.ref f) = true) (hne : findIn K (.ref C) "__ne__" = some (some (.builtin "object.__ne__"))) (hm : mroIn K C (.type "object") = some true)
    (h : wpAny (model prog w) A.in1 (call (.ref f) [.ref x, b]) (fun v s' => ∃ r, v = .bool r ∧ Q (.bool (!r)) s') E s) : wpAny (model prog w) A (richCompare .NotEq (.ref x) b) Q E s := by
  have sub : Looks (model prog w) s.heap (isInstance (.ref x) (.type "object")) true := I.type.andThen (looks_mroIn X hm)
  have bnd : ∀ self, bindSpecial (.builtin "object.__ne__") self = pure (.builtin "object.__ne__", [self]) := PySem.F.cmp_object.ne.toG.bind
  have one : wpAny (model prog w) A (tryCompare (.ref x) "__ne__" b) (fun r s' => ∃ v, r = some v ∧ Q v s') E s := by
    unfold tryCompare
    refine wpAny_bind (m := callSpecialIfBound? (.ref x) (Str.ofString "__ne__") [b]) ?_
    simp only [callSpecialIfBound?, bindSpecialIfBound?]
    refine wpAny_holding (wpAny_bind (wpAny_bind (wpAny_bind (I.type.here ((looks_findIn X hne).here ?_)))))
    simp only [bnd]
    have core : wpAny (model prog w) A (call (.builtin "object.__ne__") [.ref x, b]) (fun v s' => ∃ r, v = .bool r ∧ Q (.bool r) s') E s := by
      refine wpAny_call (codeAny_call_builtin PySem.F.cmp_object.ne.plain F.cmpEntry_ne (@check_slot (model prog w) _ _ s "object.__ne__" "object" "__ne__" (.ref x) [b] [] _ F.cmpKind_ne F.cmpSplit_ne sub (F.cmpArgs_ne _ _) ?_))
      unfold Builtin.«object.__ne__»
      refine wpAny_bind (m := slotArgs "__ne__" 1 _) (wpAny_pure ?_)
      refine wpAny_bind (wpAny_cRoomFor hu ?_)
      refine wpAny_bind (m := callSpecialIfBound? (.ref x) (Str.ofString "__eq__") [b]) (ifBound_K X I hs hf (wpAny_mono h (fun v s' hv => ?_) fun _ _ e => e))
      obtain ⟨r, rfl, hq⟩ := hv
      refine wpAny_bind (wpAny_truthy_bool ?_)
      exact wpAny_pure ⟨_, rfl, hq⟩
    have fin : wpAny (model prog w) A (call (.builtin "object.__ne__") ([.ref x] ++ [b]) >>= fun v => pure (some v))
        (fun r s' => wpAny (model prog w) A (match r with | some .notImplemented | none => pure none | some v => pure (some v)) (fun r s' => ∃ v, r = some v ∧ Q v s') E s') E s := by
      refine wpAny_bind (wpAny_mono core (fun v s' hv => wpAny_pure ?_) fun _ _ e => e)
      obtain ⟨r, rfl, hq⟩ := hv
      exact wpAny_pure ⟨_, rfl, hq⟩
    refine wpAny_bind (wpAny_askSetting (wpAny_ite ?_))
    split
    · exact wpAny_bind (wpAny_pure (wpAny_pure fin))
    · exact wpAny_tryCatch (wpAny_bind (wpAny_pure (wpAny_pure fin)))
  unfold richCompare
  simp only [oneThing_ref]
  refine wpAny_holding (wpAny_bind (wpAny_cRoomFor (Nat.lt_of_succ_lt hu) ?_))
  refine wpAny_bind (I.type.here (wpAny_bind (hb.here ?_)))
  split
  · rename_i q
    have e : subIn K tb (.ref C) = some false := by
      rcases Bool.or_eq_true_iff.mp hn with e | e
      · rw [beq_iff_eq.mp e] at q; simp at q
      · exact beq_iff_eq.mp e
    refine wpAny_bind ((looks_subIn X e).here ?_)
    simp only [Bool.false_eq_true, if_false]
    refine wpAny_bind (wpAny_mono one (fun r s' z => ?_) fun _ _ e => e)
    obtain ⟨v, rfl, hq⟩ := z
    exact wpAny_pure hq
  · refine wpAny_bind (wpAny_pure ?_)
    simp only [Bool.false_eq_true, if_false]
    refine wpAny_bind (wpAny_mono one (fun r s' z => ?_) fun _ _ e => e)
    obtain ⟨v, rfl, hq⟩ := z
    exact wpAny_pure hq
end
end PySem.W

set_option Elab.async false
set_option linter.all false
set_option maxRecDepth 100000
set_option maxHeartbeats 4000000
namespace Own
open PySem L2 Lay PySem.Spec PyProof.Rows ClX
/-! ### a def called with values by place, no text of an object being made -/
def FnP (P : Program) (w : World) (K : PySem.W.Frag) (mg : Str → Option Value) (base : Heap) (k : Nat) (g : Addr) (sp : Sp) : Prop :=
  ∀ (A : Around) (outer : List Env) (s : Shared) (H : Hp) (us : List Value) (vs : List V) (Q : VK) (E : XK), Room k A → A.guards = some [] → Env0 P w K mg base A outer s H → Vals vs us → sp vs H Q E →
    codeAny (model P w) A (.call (.ref g) ⟨us, []⟩) (CR CX0 outer P w H s Q E) s
section
variable {P : Program} {w : World} {K : PySem.W.Frag} {mg : Str → Option Value} {base : Heap} {j k : Nat} {g : Addr} {fd : FuncData} {ps : List Str} {sp sp' : Sp}
theorem FnP.ofG (F : FnG P w K mg base CX0 k g fd ps sp) (b : Binds K fd ps []) : FnP P w K mg base k g sp := by
  intro A outer s H us vs Q E hr hg e0 r h
  have hl : (us ++ []).length = ps.length := by rw [List.append_nil, ← r.length]; exact F.len _ _ _ _ h
  have b1 := b s us (e0.mod.kin.keeps fun b o e => (e0.bs b o e).1) hl
  rw [List.append_nil] at b1
  exact F.run A outer s H ⟨us, []⟩ us vs Q E hr hg e0 b1 r h
theorem FnP.mono (F : FnP P w K mg base j g sp) (h : j ≤ k) : FnP P w K mg base k g sp := fun A outer s H us vs Q E hr => F A outer s H us vs Q E (hr.mono h)
theorem FnP.imp (F : FnP P w K mg base k g sp) (h : ∀ vs H Q E, sp' vs H Q E → sp vs H Q E) : FnP P w K mg base k g sp' := fun A outer s H us vs Q E hr hg e0 r hs => F A outer s H us vs Q E hr hg e0 r (h _ _ _ _ hs)
/-- def f(a, .., *v) -/
theorem fnP_star {f : Addr} {name qual : Str} {params : Arguments} {body : List Stmt} {scope : Scope} {dV kV doc pm cdv ct oc : Value} {an od : Option Addr} {osl : Array (Option Value)} {N : List Str} {pv : Str}
    (lk : K.lookup f = some ⟨oc, od, .func (PySem.W.fnOf name qual params body scope dV kV doc pm an cdv ct), osl⟩) (hcd : PySem.W.codeIn K cdv qual = true) (S : FnScope N (ps ++ [pv]) scope)
    (hb : ∀ us rest : List Value, us.length = ps.length → bindArgs (PySem.W.fnOf name qual params body scope dV kV doc pm an cdv ct) ⟨us ++ rest, []⟩ = (newTuple rest >>= fun t => pure (ps.zip us ++ [(pv, t)])))
    (hbody : ∀ (A : Around) (outer : List Env) (s : Shared) (H : Hp) (vs : List V) (Q : VK) (E : XK), Room k (A.deeper (envOfC qual scope s.heap.objs.size f cdv)) → A.guards = some [] → sp vs H Q E →
      ∃ t, PSs (cxOf CX0 P w K mg base N qual scope f cdv A outer s H E) body t ∧ t { nx := fun _ H' => Q .non H', rt := Q } (start N vs) H) :
    FnP P w K mg base (k + 1) f (fun vs H Q E => ∃ ws rest, vs = ws ++ rest ∧ ws.length = ps.length ∧ rest.length ≤ sizeLine ∧ ∀ p, H p = Option.none → sp (ws ++ [V.ref p]) (upd H p (.tup rest)) Q E) := by
  intro A outer s H us vs Q E hr hg e0 r hsp
  obtain ⟨ws, rest, ev, hl, hz, hq⟩ := hsp
  subst ev
  obtain ⟨u1, u2, eu, r1, r2⟩ := StX.vals_split r
  subst eu
  have hn : H s.heap.objs.size = Option.none := e0.hok.fresh (Nat.le_refl _)
  have hl1 : u1.length = ps.length := by rw [← r1.length]; exact hl
  have hl2 : u2.length ≤ sizeLine := by rw [← r2.length]; exact hz
  refine StX.run_bnd lk hcd S hr e0 (G := fun xs H2 => ∃ p, H p = Option.none ∧ xs = ws ++ [V.ref p] ∧ H2 = upd H p (.tup rest)) (fun A' Ex Q' h => ?_) fun s2 H2 xs ⟨p, hp, ex, eH⟩ hr' => ?_
  · rw [hb u1 u2 hl1]
    refine wpAny_bind (wpAny_newTuple (wpAny_pure ?_) hl2)
    have new : ObjOk P w (upd H s.heap.objs.size (.tup rest)) (s.heap.push ({ cls := .type "tuple", data := .seq u2.toArray } : Obj)) s.heap.objs.size (.tup rest) := ⟨hz, u2, r2, ⟨_, Heap.get?_push_size _ rfl, rfl, _, rfl⟩⟩
    have un := StX.un_laid (fs := frs outer) (s := s) (o := ({ cls := .type "tuple", data := .seq u2.toArray } : Obj)) (u := .tup rest) hn
    have z := h _ _ (ws ++ [V.ref s.heap.objs.size]) (u1 ++ [Value.ref s.heap.objs.size]) (StX.env0_laid e0 new) un rfl (fun e s' z => z) (r1.append (.cons rfl .nil))
      (by rw [List.length_append, List.length_append, hl] <;> rfl) ⟨_, hn, rfl, rfl⟩
    rw [List.zip_append hl1.symm] at z
    exact z
  · subst ex eH
    exact hbody A outer s2 _ _ Q E hr' hg (hq p hp)
end
section
variable {X : Cx} {k : Nat} {f g C : Addr} {sp : Sp} {pins : List (Addr × Obj)} {σ : L2.St} {H : Hp} {s : Shared} {Q : VK} {us : List Value} {vs : List V}
theorem run_P {A : Around} (F : FnP X.prog X.w X.K X.mg X.base k g sp) (hr : Room k A) (hg : A.guards = some []) (e0 : Env0 X.prog X.w X.K X.mg X.base A X.stack s H) (I : Inv X pins σ H s) (r : Vals vs us) (h : sp vs H Q E0) :
    codeAny (model X.prog X.w) A (.call (.ref g) ⟨us, []⟩) (fun r s' => match r with | .ok (.ret v) => EP X pins σ Q v s' | .ok _ => False | .error x => X.xe x s') s := by
  refine codeAny_mono (F A X.stack s H us vs Q E0 hr hg e0 r h) fun r s' hq => ?_
  cases r with
  | error e => exact False.elim hq
  | ok fl =>
    cases fl with
    | ret u => exact I.after hq
    | next => exact False.elim hq
    | brk => exact False.elim hq
    | cont => exact False.elim hq
theorem g_under {A : Around} {a : Args} (hg : A.guards = some []) : (A.under (.builtin "type.__call__" a)).guards = some [] := by
  have e : Code.isGuard (.builtin "type.__call__" a) = false := by first | rfl | (show List.contains _ _ = false; decide +kernel)
  have e2 : Code.guards (.builtin "type.__call__" a) = [] := by unfold Code.guards; rw [e]; rfl
  have z : (A.under (.builtin "type.__call__" a)).guards = pushGuards (Code.guards (.builtin "type.__call__" a)) A.guards := by unfold Around.under; rfl
  rw [z, e2, hg]; rfl
theorem g_in1 {A : Around} (hg : A.guards = some []) : A.in1.guards = some [] := by simpa using hg
/-! ### making -/
def tMakeP (C : Addr) (sp : Sp) (t : TA) : TE := fun σ H Q => t σ H fun vs H1 => ∀ x dx, H1 x = Option.none → H1 dx = Option.none → dx ≠ x →
  sp (V.ref x :: vs) (upd (upd H1 dx (.own x)) x (.ins C dx [])) (fun v H2 => v = .non ∧ Q (.ref x) H2) E0
theorem run_makeP (M : Mk X.K C f) (F : FnP X.prog X.w X.K X.mg X.base k f sp) (hr : Room (k + 1) X.A) (hg : X.A.guards = some []) (I : Inv X pins σ H s) (r : Vals vs us)
    (h : ∀ x dx, H x = Option.none → H dx = Option.none → dx ≠ x → sp (V.ref x :: vs) (upd (upd H dx (.own x)) x (.ins C dx [])) (fun v H2 => v = .non ∧ Q (.ref x) H2) E0) :
    wpAny (model X.prog X.w) X.A (call (.ref C) us) (EP X pins σ Q) X.xe s := by
  have hq := h (s.heap.objs.size + 1) s.heap.objs.size (I.hok.fresh (Nat.le_succ _)) (I.hok.fresh (Nat.le_refl _)) (Nat.ne_of_lt (Nat.lt_succ_self _))
  have I2 := Inv.made (C := C) I
  have r2 : Vals (V.ref (s.heap.objs.size + 1) :: vs) (Value.ref (s.heap.objs.size + 1) :: us) := .cons rfl r
  refine wpAny_call (make_map (f := f) I.kIn M.makes M.init (beq_iff_eq.mp M.fn) (codeAny_mono (F _ X.stack _ _ (Value.ref (s.heap.objs.size + 1) :: us) _ _ E0 (hr.make C us []) (g_under hg) (I2.env0.make C us []) r2 hq) fun r s' hq' => ?_))
  cases r with
  | error e => exact False.elim hq'
  | ok fl =>
    cases fl with
    | ret u =>
      obtain ⟨v, H', I3, rv, ev, q3⟩ := I2.after hq'
      subst ev
      exact ⟨rv, ⟨V.ref (s.heap.objs.size + 1), H', I3, rfl, q3⟩⟩
    | next => exact False.elim hq'
    | brk => exact False.elim hq'
    | cont => exact False.elim hq'
end
section
variable {X : Cx} {k : Nat} {f g C p : Addr} {mc : Value} {sp : Sp} {x m : Str} {o e : Expr} {es : List Expr} {t ta : TA} {te : TE} {pos apos sp_ p1 : Pos} {pl : Sem Bool}
/-- C(e, ..) -/
theorem pe_makeP (M : Mk X.K C f) (F : FnP X.prog X.w X.K X.mg X.base k f sp) (hr : Room (k + 1) X.A) (hgd : X.A.guards = some []) (hm : X.mg x = some (.ref C)) (ha : PA X (e :: es) t) (hg : Gl X x := by rfl) (hdb : (x == ("__debug__" : Str)) = false := by decide)
    (he : starEach (e :: es) X.env = (false, eval e X.env) :: starEach es X.env := by rfl) (hpl : (backTo pos (starEach es X.env)).any (·.1) = false := by rfl) : PE X (.Call (.Name x p1) (e :: es) [] pos) (tMakeP C sp t) := by
  refine ⟨fun pins s σ H Q I h => ?_⟩
  refine wpAny_Call_Name_kw (ld_glob I hg hm ?_ hdb)
  refine PySem.W.callWith_K (h₀ := X.base) I.ok.mod.kin M.kp (thn (ha.run pos pins s σ H _ I h) fun us s1 ⟨vs, H1, I1, r, q⟩ => ⟨I1.kIn, ?_⟩) he hpl
  exact run_makeP M F hr hgd I1 r q
/-- C(*e) -/
def tStar1 (K : PySem.W.Frag) (te : TE) : TA := fun σ H Q => te σ H fun y H1 => ∃ a xs, y = V.ref a ∧ (SqT K H1 a xs ∨ SqL K H1 a xs) ∧ Q xs H1
theorem pe_makeS (M : Mk X.K C f) (F : FnP X.prog X.w X.K X.mg X.base k f sp) (hr : Room (k + 1) X.A) (hgd : X.A.guards = some []) (hm : X.mg x = some (.ref C)) (he : PE X e te) (hg : Gl X x := by rfl) (hdb : (x == ("__debug__" : Str)) = false := by decide)
    (hst : starEach [.Starred e sp_] X.env = [(true, eval e X.env)] := by rfl) : PE X (.Call (.Name x p1) [.Starred e sp_] [] pos) (tMakeP C sp (tStar1 X.K te)) := by
  refine ⟨fun pins s σ H Q I h => ?_⟩
  refine wpAny_Call_Name_kw (ld_glob I hg hm ?_ hdb)
  refine PySem.W.callWith_S (h₀ := X.base) I.ok.mod.kin M.kp (thn (he.run pins s σ H _ I h) fun v s1 ⟨y, H1, I1, ry, a, xs, ey, hxs, q⟩ => ?_) hst
  subst ey
  obtain rfl : v = Value.ref a := ry
  exact StX.star_any I1 hxs fun us s2 I2 rv => ⟨I2.kIn, run_makeP M F hr hgd I2 rv q⟩
/-! ### methods -/
def tMethP (C : Addr) (m : Str) (sp : Sp) (te : TE) (t : TA) : TE := fun σ H Q => te σ H fun x H1 => ∃ a dx fs, x = .ref a ∧ H1 a = some (.ins C dx fs) ∧ fs.lookup m = none ∧ t σ H1 fun vs H2 => sp (.ref a :: vs) H2 Q E0
/-- o.m() -/
theorem pe_methP0 (he : PE X o te) (c : Cls X.K C) (hm : Meth X.K C m f) (F : FnP X.prog X.w X.K X.mg X.base k f sp) (hr : Room k X.A) (hgd : X.A.guards = some [])
    (ht : eval (.Call (.Attribute o m apos) [] [] pos) X.env = (do
      let ov ← eval o X.env
      standAt apos.atName
      let (f, first) ← holding [ov] (getMethod ov m pl)
      callWith pos f first (backTo pos (starEach [] X.env)) (backToKw pos (keywordEach [] X.env))) := by rfl) :
    PE X (.Call (.Attribute o m apos) [] [] pos) (tMethP C m sp te tNil) := by
  refine ⟨fun pins s σ H Q I h => ?_⟩
  refine PySem.W.methodCall_KW (pl := pl) (thn (he.run pins s σ H _ I h) fun u s1 ⟨x, H1, I1, rx, a, dx, fs, ex, ea, l, q⟩ => ?_) ht
  subst ex
  obtain rfl : u = Value.ref a := rx
  refine getmeth_ok I1 ea c hm l ?_
  exact PySem.W.callWith_K0 (first := [.ref a]) I1.kIn hm.kp (wpAny_call (run_P (us := [.ref a]) (vs := [.ref a]) F hr hgd I1.env0 I1 (.cons rfl .nil) q))
/-- C.m is a staticmethod: its record at p, its def at g -/
structure CSta (K : PySem.W.Frag) (C : Addr) (mc : Value) (m : Str) (p g : Addr) : Prop where
  at_ : PySem.W.findCls K (.ref C) mc m = some (.get (.builtin "staticmethod.__get__") (.ref p) .none (.ref C))
  rc : ∃ rest, PySem.W.recIn K p "staticmethod" = some (.ref g :: rest)
  kp : PySem.W.keepIn K (.ref g) = true
theorem getmethst_ok {pins : List (Addr × Obj)} {σ : L2.St} {H : Hp} {s : Shared} {A : Around} {E : Value → Shared → Prop} {Q : Value × List Value → Shared → Prop} (I : Inv X pins σ H s) (r : CRead X.K C mc) (c : CSta X.K C mc m p g)
    (h : ∀ s', Inv X pins σ H s' → Q (.ref g, []) s') : wpAny (model X.prog X.w) A (getMethod (.ref C) m pl) Q E s := by
  obtain ⟨rest, hp⟩ := c.rc
  refine PySem.W.method_cls I.kIn r.ga (PySem.W.cls_bind I.kIn r.rd c.at_ ?_)
  refine wpAny_call (PySem.W.sm_get (s := { s with toks := s.toks + 1 }) I.kIn hp (PySem.W.handed_on rfl ?_))
  exact h _ (I.tok _)
def tStaP (C : Addr) (sp : Sp) (te : TE) (t : TA) : TE := fun σ H Q => te σ H fun x H1 => x = .ref C ∧ t σ H1 fun vs H2 => sp vs H2 Q E0
/-- C.m(e, ..) -/
theorem pe_staP (he : PE X o te) (r : CRead X.K C mc) (c : CSta X.K C mc m p g) (F : FnP X.prog X.w X.K X.mg X.base k g sp) (hr : Room k X.A) (hgd : X.A.guards = some []) (ha : PA X (e :: es) t)
    (hst : starEach (e :: es) X.env = (false, eval e X.env) :: starEach es X.env := by rfl) (hpl : (backTo pos (starEach es X.env)).any (·.1) = false := by rfl)
    (ht : eval (.Call (.Attribute o m apos) (e :: es) [] pos) X.env = (do
      let ov ← eval o X.env
      standAt apos.atName
      let (f, first) ← holding [ov] (getMethod ov m pl)
      callWith pos f first (backTo pos (starEach (e :: es) X.env)) (backToKw pos (keywordEach [] X.env))) := by rfl) :
    PE X (.Call (.Attribute o m apos) (e :: es) [] pos) (tStaP C sp te t) := by
  refine ⟨fun pins s σ H Q I h => ?_⟩
  refine PySem.W.methodCall_KW (pl := pl) (thn (he.run pins s σ H _ I h) fun u s1 ⟨x, H1, I1, rx, ex, q⟩ => ?_) ht
  subst ex
  obtain rfl : u = Value.ref C := rx
  refine getmethst_ok I1 r c fun s2 I2 => ?_
  refine PySem.W.callWith_K (first := []) (h₀ := X.base) I2.ok.mod.kin c.kp (thn (ha.run pos pins s2 σ H1 _ I2 q) fun us s3 ⟨vs, H2, I3, rv, q2⟩ => ⟨I3.kIn, ?_⟩) hst hpl
  exact wpAny_call (run_P F hr hgd I3.env0 I3 rv q2)
/-- C.m(k = e) -/
theorem pe_staK {fd : FuncData} {q : Str} {kws : List Keyword} {tk : TA} (he : PE X o te) (r : CRead X.K C mc) (c : CSta X.K C mc m p g) (F : FnG X.prog X.w X.K X.mg X.base CX0 k g fd [q] sp) (b : Kw1 fd [q]) (hr : Room k X.A) (hgd : X.A.guards = some [])
    (hkw : PK X kws tk) (hall : (backToKw pos (keywordEach kws X.env)).all (·.1.isSome) = true := by rfl) (hks : (backToKw pos (keywordEach kws X.env)).filterMap (·.1) = [q] := by rfl)
    (hpl : ((backTo pos (starEach [] X.env)).any (·.1) || (backToKw pos (keywordEach kws X.env)).any (·.1.isNone)) = false := by rfl)
    (ht : eval (.Call (.Attribute o m apos) [] kws pos) X.env = (do
      let ov ← eval o X.env
      standAt apos.atName
      let (f, first) ← holding [ov] (getMethod ov m pl)
      callWith pos f first (backTo pos (starEach [] X.env)) (backToKw pos (keywordEach kws X.env))) := by rfl) :
    PE X (.Call (.Attribute o m apos) [] kws pos) (tStaP C sp te tk) := by
  refine ⟨fun pins s σ H Q I h => ?_⟩
  refine PySem.W.methodCall_KW (pl := pl) (thn (he.run pins s σ H _ I h) fun u s1 ⟨x, H1, I1, rx, ex, q⟩ => ?_) ht
  subst ex
  obtain rfl : u = Value.ref C := rx
  refine getmethst_ok I1 r c fun s2 I2 => ?_
  refine PySem.W.callWith_KW0 (h₀ := X.base) I2.ok.mod.kin c.kp hall ?_ hpl
  refine thn (hkw.run pos pins s2 σ H1 _ I2 q) fun ws s3 ⟨zs, H2, I3, rz, q2⟩ => ⟨I3.kIn, ?_⟩
  rw [hks]
  have hl : zs.length = 1 := F.len _ _ _ _ q2
  cases rz with
  | nil => cases hl
  | @cons z u zr ur h1 rest =>
    cases rest with
    | cons _ _ => cases hl
    | nil =>
      have b1 : BindsTo s3 fd ⟨[], [(_, u)]⟩ ([_].zip [u]) := .of_eq (b _ u rfl)
      exact wpAny_call (run_G (us' := [u]) (vs' := [z]) F hr hgd I3 b1 (.cons h1 .nil) q2)
/-! ### properties -/
def tPropP (C : Addr) (sp : Sp) (te : TE) : TE := fun σ H Q => te σ H fun x H1 => ∃ a dx fs, x = .ref a ∧ H1 a = some (.ins C dx fs) ∧ sp [.ref a] H1 Q E0
theorem pe_propP (he : PE X e te) (c : Cls X.K C) (hp : PropOf X.K C m p g) (F : FnP X.prog X.w X.K X.mg X.base k g sp) (hr : Room (k + 1) X.A) (hgd : X.A.guards = some [])
    (hab : attributeBase e m X.env (eval e X.env) = eval e X.env := by rfl) : PE X (.Attribute e m pos) (tPropP C sp te) := by
  refine ⟨fun pins s σ H Q I h => ?_⟩
  refine attr_of hab (thn (he.run pins s σ H _ I h) fun u s1 ⟨x, H1, I1, rx, a, dx, fs, ex, ea, q⟩ => ?_)
  subst ex
  obtain rfl : u = Value.ref a := rx
  obtain ⟨mA, O, _, _, _, _⟩ := ins_get I1.hok ea
  obtain ⟨od, J, _⟩ := O.look
  obtain ⟨rest, hrec⟩ := hp.rec_
  have I2 := I1.tok (s1.toks + 1)
  have hc : (PySem.W.clsIn X.K C).isSome = true := by
    obtain ⟨cd, hc, _⟩ := PySem.W.any_some c.hd
    rw [hc]
    rfl
  refine PySem.W.get_bind I1.kIn J (PySem.W.plainGet_of (c.get m)).1 (PySem.W.findObj_data hc hp.at_ hp.get hp.tak) (PySem.W.plainGet_of (c.get m)).2 (wpAny_call (PySem.W.prop_get (s := { s1 with toks := s1.toks + 1 }) I1.kIn hrec ?_))
  refine codeAny_mono (F X.A.in1 X.stack { s1 with toks := s1.toks + 1 } H1 [.ref a] [.ref a] Q E0 hr.in1 (g_in1 hgd) I2.env0.in1 (.cons rfl .nil) q) fun r s' hq => ?_
  cases r with
  | error er => exact False.elim hq
  | ok fl =>
    cases fl with
    | ret u =>
      obtain ⟨v, H', I3, rv, q3⟩ := I2.after hq
      show wpAny _ _ (handedOut u) _ _ _
      rw [PySem.W.handedOut_of (handed_of rv)]
      exact wpAny_pure ⟨v, H', I3, rv, q3⟩
    | next => exact False.elim hq
    | brk => exact False.elim hq
    | cont => exact False.elim hq
end
end Own

set_option Elab.async false
set_option linter.all false
set_option maxRecDepth 100000
set_option maxHeartbeats 4000000
namespace Own
open PySem L2 Lay PySem.Spec PyProof.Rows SrtO
/-! ### the order of texts, of entries -/
def strLt (x y : Str) : Bool := decide (x.cps.toList < y.cps.toList)
theorem nl_irr : ∀ l : List Nat, ¬ l < l
  | [] => fun h => by cases h
  | a :: l => fun h => by
    cases h with
    | rel h => exact Nat.lt_irrefl _ h
    | cons h => exact nl_irr l h
theorem nl_tr : ∀ {a b c : List Nat}, a < b → b < c → a < c
  | _, _, _, .nil, .rel _ => .nil
  | _, _, _, .nil, .cons _ => .nil
  | _, _, _, .rel h, .rel h' => .rel (Nat.lt_trans h h')
  | _, _, _, .rel h, .cons _ => .rel h
  | _, _, _, .cons _, .rel h => .rel h
  | _, _, _, .cons h, .cons h' => .cons (nl_tr h h')
theorem nl_tri : ∀ a b : List Nat, a < b ∨ a = b ∨ b < a
  | [], [] => .inr (.inl rfl)
  | [], _ :: _ => .inl .nil
  | _ :: _, [] => .inr (.inr .nil)
  | x :: a, y :: b => by
    rcases Nat.lt_trichotomy x y with h | h | h
    · exact .inl (.rel h)
    · subst h
      rcases nl_tri a b with h | h | h
      · exact .inl (.cons h)
      · subst h; exact .inr (.inl rfl)
      · exact .inr (.inr (.cons h))
    · exact .inr (.inr (.rel h))
/-- a strict order of which any two unlike things stand one way -/
structure Tot {α : Type} (lt : α → α → Bool) : Prop where
  irr : ∀ x, lt x x = false
  tr : ∀ x y z, lt x y = true → lt y z = true → lt x z = true
  tri : ∀ x y, lt x y = true ∨ x = y ∨ lt y x = true
theorem Tot.asym {α : Type} {lt : α → α → Bool} (T : Tot lt) {x y : α} (h : lt x y = true) : lt y x = false := by
  cases e : lt y x with
  | false => rfl
  | true => have := T.tr _ _ _ h e; rw [T.irr] at this; cases this
theorem Tot.anti {α : Type} {lt : α → α → Bool} (T : Tot lt) {x y : α} (h1 : lt x y = false) (h2 : lt y x = false) : x = y := by
  rcases T.tri x y with h | h | h
  · rw [h1] at h; cases h
  · exact h
  · rw [h2] at h; cases h
theorem Tot.swo {α : Type} {lt : α → α → Bool} (T : Tot lt) : Swo lt where
  asym := fun x y h => T.asym h
  tr := fun x y z h1 h2 => by
    cases e : lt z x with
    | false => rfl
    | true =>
      rcases T.tri x y with h | h | h
      · have := T.tr _ _ _ e h; rw [h2] at this; cases this
      · subst h; rw [h2] at e; cases e
      · rw [h1] at h; cases h
theorem tot_str : Tot strLt where
  irr := fun x => decide_eq_false (nl_irr _)
  tr := fun x y z h1 h2 => decide_eq_true (nl_tr (of_decide_eq_true h1) (of_decide_eq_true h2))
  tri := fun x y => by
    rcases nl_tri x.cps.toList y.cps.toList with h | h | h
    · exact .inl (decide_eq_true h)
    · refine .inr (.inl ?_)
      obtain ⟨⟨a⟩⟩ := x
      obtain ⟨⟨b⟩⟩ := y
      simp at h
      subst h; rfl
    · exact .inr (.inr (decide_eq_true h))
abbrev Ent := Int × Int × Str
def entLt (p q : Ent) : Bool := if p.1 = q.1 then (if p.2.1 = q.2.1 then strLt p.2.2 q.2.2 else decide (p.2.1 < q.2.1)) else decide (p.1 < q.1)
theorem tot_ent : Tot entLt where
  irr := fun x => by simp [entLt, tot_str.irr]
  tr := fun x y z h1 h2 => by
    unfold entLt at *
    split at h1 <;> split at h2
    · rename_i a b
      rw [if_pos (a.trans b)]
      split at h1 <;> split at h2
      · rename_i c d
        rw [if_pos (c.trans d)]
        exact tot_str.tr _ _ _ h1 h2
      · rename_i c d
        rw [if_neg (by rw [c]; exact d), c]; exact h2
      · rename_i c d
        rw [if_neg (by rw [← d]; exact c), ← d]; exact h1
      · have h1 := of_decide_eq_true h1
        have h2 := of_decide_eq_true h2
        rw [if_neg (by omega)]
        exact decide_eq_true (by omega)
    · rename_i a b
      rw [if_neg (by rw [a]; exact b), a]; exact h2
    · rename_i a b
      rw [if_neg (by rw [← b]; exact a), ← b]; exact h1
    · have h1 := of_decide_eq_true h1
      have h2 := of_decide_eq_true h2
      rw [if_neg (by omega)]
      exact decide_eq_true (by omega)
  tri := fun x y => by
    obtain ⟨a, b, c⟩ := x
    obtain ⟨a', b', c'⟩ := y
    unfold entLt
    by_cases e : a = a'
    · subst e
      by_cases f : b = b'
      · subst f
        simp only [if_true]
        rcases tot_str.tri c c' with h | h | h
        · exact .inl h
        · subst h; exact .inr (.inl rfl)
        · exact .inr (.inr h)
      · have f' : ¬ b' = b := fun z => f z.symm
        simp only [if_true, if_neg f, if_neg f']
        rcases Int.lt_trichotomy b b' with h | h | h
        · exact .inl (decide_eq_true h)
        · exact absurd h f
        · exact .inr (.inr (decide_eq_true h))
    · have e' : ¬ a' = a := fun z => e z.symm
      simp only [if_neg e, if_neg e']
      rcases Int.lt_trichotomy a a' with h | h | h
      · exact .inl (decide_eq_true h)
      · exact absurd h e
      · exact .inr (.inr (decide_eq_true h))
/-! ### sorted lists -/
def Sd {α : Type} (lt : α → α → Bool) (l : List α) : Prop := l.Pairwise fun a b => lt b a = false
theorem sd_uniq {α : Type} {lt : α → α → Bool} (T : Tot lt) : ∀ {l m : List α}, l.Perm m → Sd lt l → Sd lt m → l = m
  | [], m, p, _, _ => by have := p.length_eq; cases m with | nil => rfl | cons _ _ => cases this
  | a :: l, [], p, _, _ => by have := p.length_eq; cases this
  | a :: l, b :: m, p, hl, hm => by
    have h1 := List.pairwise_cons.mp hl
    have h2 := List.pairwise_cons.mp hm
    have e : a = b := by
      have ha : a ∈ b :: m := p.mem_iff.mp (List.mem_cons_self ..)
      have hb : b ∈ a :: l := p.mem_iff.mpr (List.mem_cons_self ..)
      rcases List.mem_cons.mp ha with h | h
      · exact h
      · rcases List.mem_cons.mp hb with h' | h'
        · exact h'.symm
        · exact T.anti (h2.1 a h |> fun z => z) (h1.1 b h')
    subst e
    rw [sd_uniq T (List.Perm.cons_inv p) h1.2 h2.2]
/-! ### tuples that are entries -/
def IsE (h : Heap) (v : Value) (e : Ent) : Prop := ∃ a o t u x n, v = .ref a ∧ h.get? a = some o ∧ o.cls = .type "tuple" ∧ o.data = .seq #[.int e.1 t, .int e.2.1 u, .str e.2.2 x] n
theorem IsE.keeps {h h' : Heap} {v : Value} {e : Ent} (p : IsE h v e) (k : ∀ b o, h.get? b = some o → o.cls = .type "tuple" → h'.get? b = some o) : IsE h' v e := by
  obtain ⟨a, o, t, u, x, n, e, ho, hc, hd⟩ := p
  exact ⟨a, o, t, u, x, n, e, k _ _ ho hc, hc, hd⟩
section
variable {prog : Program} {w : World} {A : Around} {E : Value → Shared → Prop} {s : Shared}
theorem firstsE {h : Heap} : ∀ {vs : List Value}, (∀ v ∈ vs, ∃ e, IsE h v e) → ∃ fs : List Value, PySem.W.KatTups h vs fs ∧ fs.length = vs.length ∧ ∀ f ∈ fs, ∃ x t, f = Value.int x t
  | [], _ => ⟨[], PySem.W.KatTups.nil, rfl, fun _ hm => by simp at hm⟩
  | v :: vs, hp => by
    obtain ⟨fs, h1, h2, h3⟩ := firstsE (vs := vs) fun v' hm => hp v' (List.mem_cons_of_mem _ hm)
    obtain ⟨e, a, o, t, u, x, n, e', ho, hc, hd⟩ := hp v (List.mem_cons_self ..)
    subst e'
    refine ⟨.int e.1 t :: fs, PySem.W.KatTups.cons ho hc hd rfl h1, by rw [List.length_cons, List.length_cons, h2], fun f hm => ?_⟩
    rcases List.mem_cons.mp hm with rfl | hm
    · exact ⟨_, t, rfl⟩
    · exact h3 f hm
theorem ent_cmp {vs : List Value} {k : Value → Ent} (hp : ∀ v ∈ vs, IsE s.heap v (k v)) : Cmp prog w A s (tuples' true) (fun p => p.1 ∈ vs) (lt2 fun v u => entLt (k v) (k u)) := by
  intro p q hm hm'
  have h1 := hp _ hm
  have h2 := hp _ hm'
  show wpAny (model prog w) A (keyLt' (tuples' true) p.1 q.1) (fun r s' => s' = s ∧ r = entLt (k p.1) (k q.1)) (fun _ _ => False) s
  generalize k p.1 = e1 at h1 ⊢
  generalize k q.1 = e2 at h2 ⊢
  obtain ⟨x, y, z⟩ := e1
  obtain ⟨x', y', z'⟩ := e2
  obtain ⟨a, o, t, u, v, n, e, ho, hc, hd⟩ := h1
  obtain ⟨a', o', t', u', v', n', e', ho', hc', hd'⟩ := h2
  rw [e, e']
  refine PySem.W.kat_lt ho hd ho' hd' ?_
  show PySem.W.KatLex prog w A true (decide (3 < 3)) _ [(.int x t, .int x' t'), (.int y u, .int y' u'), (.str z v, .str z' v')] 0 s
  unfold entLt
  dsimp only
  refine PySem.W.kat_cons (SeqAt.EqAt.int_int x t x' t' prog w _ _ ?_)
  refine PySem.W.kat_go (fun e1 => ?_) (fun e1 => ?_)
  · have ex : x = x' := by simpa using e1
    refine PySem.W.kat_yes (PySem.W.kat_cons (SeqAt.EqAt.int_int y u y' u' prog w _ _ ?_))
    refine PySem.W.kat_go (fun e2 => ?_) (fun e2 => ?_)
    · have ey : y = y' := by simpa using e2
      rw [if_pos ex, if_pos ey]
      refine PySem.W.kat_yes (PySem.W.kat_cons (SeqAt.EqAt.str_str z v z' v' prog w _ _ ?_))
      refine PySem.W.kat_go (fun e3 => ?_) (fun e3 => ?_)
      · have ez : z = z' := by simpa using e3
        subst ez
        exact PySem.W.kat_yes (PySem.W.kat_nil ⟨rfl, (tot_str.irr z).symm⟩)
      · refine PySem.W.kat_no (PySem.W.kat_one _ _ (PyProof.Rows.lt_str ?_))
        exact (show s = s ∧ decide (z.cps.toList < z'.cps.toList) = strLt z z' from ⟨rfl, rfl⟩)
    · have ey : ¬ y = y' := by simpa using e2
      rw [if_pos ex, if_neg ey]
      refine PySem.W.kat_no (PySem.W.kat_one _ _ (PyProof.Rows.lt_int ?_))
      exact (show s = s ∧ decide (y < y') = decide (y < y') from ⟨rfl, rfl⟩)
  · have ex : ¬ x = x' := by simpa using e1
    rw [if_neg ex]
    exact PySem.W.kat_no (oneLt_int ⟨rfl, rfl⟩)
theorem ents_sortableO {a : Addr} {vs : List Value} {k : Value → Ent} (h0 : 0 < vs.length) (hp : ∀ v ∈ vs, IsE s.heap v (k v)) (ha : ∀ o, s.heap.get? a = some o → o.cls ≠ .type "tuple") : SortableO prog w A s a vs fun v u => entLt (k v) (k u) := by
  intro h' keep
  have hp' : ∀ v ∈ vs, IsE h' v (k v) := fun v hm => (hp v hm).keeps fun b o e c => keep b o (fun z => by subst z; exact ha o e c) e
  obtain ⟨fs, h1, h2, h3⟩ := firstsE fun v hm => ⟨_, hp' v hm⟩
  refine ⟨tuples' true, fun Q E hq => ?_, ent_cmp hp'⟩
  refine PySem.W.kat_kind (T := .type "int") h1 (by omega) (fun f hm => ?_) (by rfl) ?_
  · obtain ⟨x, t, rfl⟩ := h3 f hm
    exact PySem.W.Looks.now
  · have e : (Value.type "int" != Value.type "tuple") = true := by first | decide +kernel | rfl | decide
    rw [e]
    exact hq
end
end Own

set_option Elab.async false
set_option linter.all false
set_option maxRecDepth 100000
set_option maxHeartbeats 4000000
namespace Gs
open PySem L2 PySem.Spec PyProof.Rows
/-! ### sets of keys of any kind that can be walked: L what was put in -/
section
variable {P : Program} {w : World} {κ : Type} [DecidableEq κ] (knd : PySem.KeyKind P w κ)
/-- the elements and their keys, one by one -/
inductive Al : List (Int × Value) → List κ → Prop where
  | nil : Al [] []
  | cons {e : Int × Value} {k : κ} {es : List (Int × Value)} {ks : List κ} (h : knd.is k e.2 = true ∧ e.1 = knd.hash k ∧ e.2.scannable = true) (r : Al es ks) : Al (e :: es) (k :: ks)
variable {knd}
theorem Al.elems {es : List (Int × Value)} {ks : List κ} (h : Al knd es ks) : ElemsOf knd es := by
  induction h with
  | nil => exact fun e he => by simp at he
  | cons h _ ih =>
    intro e he
    rcases List.mem_cons.mp he with z | z
    · subst z; exact ⟨⟨_, h.1, h.2.1⟩, h.2.2⟩
    · exact ih e z
theorem Al.len {es : List (Int × Value)} {ks : List κ} (h : Al knd es ks) : es.length = ks.length := by
  induction h with
  | nil => rfl
  | cons _ _ ih => rw [List.length_cons, List.length_cons, ih]
theorem Al.has {es : List (Int × Value)} {ks : List κ} (h : Al knd es ks) (k : κ) : k ∈ ks ↔ ∃ e ∈ es, knd.is k e.2 = true := by
  induction h with
  | nil => simp
  | @cons e k' es ks h _ ih =>
    constructor
    · intro hk
      rcases List.mem_cons.mp hk with z | z
      · subst z; exact ⟨e, List.mem_cons_self .., h.1⟩
      · obtain ⟨e', he, q⟩ := ih.mp z; exact ⟨e', List.mem_cons_of_mem _ he, q⟩
    · rintro ⟨e', he, q⟩
      rcases List.mem_cons.mp he with z | z
      · subst z; rw [knd.inj _ _ _ q h.1]; exact List.mem_cons_self ..
      · exact List.mem_cons_of_mem _ (ih.mpr ⟨e', z, q⟩)
theorem Al.perm {es es' : List (Int × Value)} (p : es'.Perm es) : ∀ {ks : List κ}, Al knd es ks → ∃ ks', ks'.Perm ks ∧ Al knd es' ks' := by
  intro ks h
  replace p := p.symm
  revert ks
  induction p with
  | nil => exact fun h => ⟨_, .refl _, h⟩
  | cons x _ ih =>
    intro ks h
    cases h with
    | cons h r =>
      obtain ⟨ks', q, r'⟩ := ih r
      exact ⟨_ :: ks', q.cons _, .cons h r'⟩
  | swap x y l =>
    intro ks h
    cases h with
    | cons h1 r =>
      cases r with
      | cons h2 r => exact ⟨_, List.Perm.swap _ _ _, .cons h2 (.cons h1 r)⟩
  | trans _ _ ih1 ih2 =>
    intro ks h
    obtain ⟨k1, q1, r1⟩ := ih1 h
    obtain ⟨k2, q2, r2⟩ := ih2 r1
    exact ⟨k2, q2.trans q1, r2⟩
variable (knd)
def GS (h : Heap) (a : Addr) (L : List κ) : Prop :=
  ∃ o es ep t ks, h.get? a = some o ∧ o.ExactSet ∧ o.data = .set es ep t ∧ Al knd es.toList ks ∧ ks.Nodup ∧ (∀ k, k ∈ ks ↔ k ∈ L) ∧ ks.length ≤ L.length ∧ es.size < scanBound ∧ t.fits es.size = true ∧ Ris t.place.toList ∧
    (w.params.followText "set-order" = true ∨ t.led = true)
variable {knd} {A : Around} {E : Value → Shared → Prop} {s : Shared} {a : Addr} {L : List κ} {k : κ} {v : Value}
theorem GS.at {h h' : Heap} (G : GS knd h a L) (q : ∀ o, h.get? a = some o → h'.get? a = some o) : GS knd h' a L := by
  obtain ⟨o, es, ep, t, ks, ho, r⟩ := G
  exact ⟨o, es, ep, t, ks, q o ho, r⟩
/-- the element is laid; perhaps all is laid anew -/
theorem gs_lay {g : Bool → Sem Unit} (hg : ∀ (b : Bool) (s₁ : Shared) (Q' : Unit → Shared → Prop), Q' () s₁ → wpAny (model P w) A (g b) Q' E s₁)
    {o : Obj} {es : Array (Int × Value)} {ep : Nat} {t : SetTable} (ho : s.heap.get? a = some o) (hex : o.ExactSet) (hd : o.data = .set es ep t) {es1 : Array (Int × Value)} {t2 : SetTable} {ks : List κ} (al : Al knd es1.toList ks) (nd : ks.Nodup)
    (hm : ∀ k, k ∈ ks ↔ k ∈ L) (hl : ks.length ≤ L.length) (hb : es1.size < scanBound) (hf : t2.fits es1.size = true) (hr : Ris t2.place.toList) (hle : w.params.followText "set-order" = true ∨ t2.led = true) {wasDummy : Bool} {R : Option Bool → Shared → Prop}
    (hR : ∀ h', Heap.SameBut a s.heap h' → GS knd h' a L → R (some true) { s with heap := h' }) :
    wpAny (model P w) A (do
        storeSet a es1 t2
        if (!wasDummy && t2.tooFull) = true then do
            g (relayAll t2 es1 (SetTable.grown es1.size)).2.2
            storeSet a (relayAll t2 es1 (SetTable.grown es1.size)).1 (relayAll t2 es1 (SetTable.grown es1.size)).2.1
            pure (some true)
          else pure (some true)) R E s := by
  have one := store_at (es' := es1) (t' := t2) ho hd
  have sb := Heap.SameBut.update s.heap a (Obj.putSet es1 t2)
  refine wpAny_bind (wpAny_storeSet_of ho hd ?_ (fits_of_scanBound hb))
  by_cases c : (!wasDummy && t2.tooFull) = true
  · rw [if_pos c]
    have pm := relayAll_perm t2 es1 (SetTable.grown es1.size)
    have q1 := relayAll_fits t2 es1 (SetTable.grown es1.size)
    have q2 := relayAll_ris t2 es1 (SetTable.grown es1.size)
    have q3 := relayAll_led t2 es1 (SetTable.grown es1.size)
    revert pm q1 q2 q3
    generalize relayAll t2 es1 (SetTable.grown es1.size) = Z
    obtain ⟨es2, t3, gave⟩ := Z
    intro pm q1 q2 q3
    obtain ⟨ks2, pk, al2⟩ := Al.perm pm al
    have e2 : es2.size = es1.size := by
      have := pm.length_eq
      simpa using this
    have hb2 : es2.size < scanBound := e2 ▸ hb
    refine wpAny_bind (hg _ _ _ (wpAny_bind (wpAny_storeSet_of one rfl (wpAny_pure (hR _ (sb.trans (Heap.SameBut.update _ a _)) ?_)) (fits_of_scanBound hb2))))
    exact ⟨_, es2, _, t3, ks2, store_at (es' := es2) (t' := t3) one rfl, hex, rfl, al2, pk.nodup_iff.mpr nd, fun k => pk.mem_iff.trans (hm k), pk.length_eq ▸ hl, hb2, q1, q2, hle.imp id fun z => q3.trans z⟩
  · rw [if_neg c]
    exact wpAny_pure (hR _ sb ⟨_, es1, _, t2, ks, one, hex, rfl, al, nd, hm, hl, hb, hf, hr, hle⟩)
/-- one more key -/
theorem gs_add (hk : knd.is k v = true) (hsc : v.scannable = true) (hnv : (∃ i u, v = .int i u) ∨ ∃ x u, v = .str x u) {Q : Bool → Shared → Prop} (G : GS knd s.heap a L) (room : L.length + 1 < scanBound)
    (hQ : ∀ b h', Heap.SameBut a s.heap h' → GS knd h' a (k :: L) → Q b { s with heap := h' }) : wpAny (model P w) A (setAddHashed a v (knd.hash k)) Q E s := by
  obtain ⟨o, es, ep, t, ks, ho, hex, hd, al, nd, hm, hl, hb, hf, hr, hle⟩ := G
  have el := al.elems
  unfold setAddHashed setAddHashedIn
  refine wpAny_holding (wpAny_bind (wpAny_setState_of ho hd hf ?_))
  dsimp only
  rw [byScan_of hsc hb el, if_pos rfl]
  unfold setAddByScan
  refine wpAny_bind (wpAny_bind (wpAny_rule (wpAny_bind (wpAny_setScan_of hk ho hd hf el ?_))))
  cases hfi : List.findIdx? (fun e => knd.is k e.2) es.toList with
  | some j =>
    obtain ⟨hj, pj, _⟩ := List.findIdx?_eq_some_iff_getElem.mp hfi
    have hin : k ∈ ks := (al.has k).mpr ⟨_, List.getElem_mem hj, pj⟩
    refine wpAny_pure (wpAny_pure (hQ _ s.heap (Heap.SameBut.refl a s.heap) ⟨o, es, ep, t, ks, ho, hex, hd, al, nd, fun i => ?_, Nat.le_succ_of_le hl, hb, hf, hr, hle⟩))
    rw [hm i, List.mem_cons]
    exact ⟨.inr, fun z => z.elim (fun e => e ▸ (hm k).mp hin) id⟩
  | none =>
    have hno : k ∉ ks := fun z => by
      obtain ⟨e, he, q⟩ := (al.has k).mp z
      have c := List.findIdx?_eq_none_iff.mp hfi e he
      rw [q] at c
      cases c
    have gw : ∀ (b : Bool) {s₁ : Shared} {Q' : Unit → Shared → Prop}, Q' () s₁ → wpAny (model P w) A (match b with | true => rule "set.scan.the-table-gave-way" | false => pure ()) Q' E s₁ := fun b s₁ Q' q => by
      cases b
      · exact wpAny_pure q
      · exact wpAny_rule q
    have pm := layNew_perm t es (knd.hash k) v
    have q1 := layNew_fits t es (knd.hash k) v
    have q2 := layNew_ris t es (knd.hash k) v hr
    have q3 := layNew_led t es (knd.hash k) v
    dsimp only
    revert pm q1 q2 q3
    generalize layNew t es (knd.hash k) v = Z
    obtain ⟨es1, t1, wasDummy, gave⟩ := Z
    intro pm q1 q2 q3
    dsimp only at pm q1 q2 q3 ⊢
    rw [Array.toList_push] at pm
    obtain ⟨ks1, pk, al1⟩ := Al.perm (pm.trans (List.perm_append_singleton _ _)) (Al.cons (knd := knd) (k := k) ⟨hk, rfl, hsc⟩ al)
    have ln : es1.size = ks.length + 1 := by
      have e := al1.len
      rw [pk.length_eq, Array.length_toList] at e
      exact e
    have hb1 : es1.size < scanBound := by rw [ln]; omega
    have nd1 : ks1.Nodup := pk.nodup_iff.mpr (List.nodup_cons.mpr ⟨hno, nd⟩)
    have hm1 : ∀ i, i ∈ ks1 ↔ i ∈ k :: L := fun i => by rw [pk.mem_iff, List.mem_cons, List.mem_cons, hm i]
    have hl1 : ks1.length ≤ (k :: L).length := by rw [pk.length_eq, List.length_cons, List.length_cons]; omega
    have hle1 : w.params.followText "set-order" = true ∨ t1.led = true := hle.imp id fun z => q3.trans z
    refine wpAny_bind (gw _ ?_)
    by_cases c : t1.plain = true
    · rw [if_pos c]
      refine wpAny_bind ?_
      rw [hashByValue_scannable 8 hsc]
      refine wpAny_pure ?_
      refine gs_lay (L := k :: L) (fun b s₁ Q' q => by cases b <;> first | exact wpAny_pure q | exact wpAny_rule q) ho hex hd al1 nd1 hm1 hl1 hb1 ?_ ?_ ?_ fun h' sb r => wpAny_pure (hQ _ h' sb r)
      · first | exact q1 | (split <;> first | exact q1 | exact SetTable.fits_plain_off q1)
      · first | exact q2 | (split <;> exact q2)
      · first | exact hle1 | (split <;> exact hle1)
    · rw [if_neg c]
      refine wpAny_bind (wpAny_pure ?_)
      simp only [↓reduceIte]
      exact gs_lay (L := k :: L) (fun b s₁ Q' q => by cases b <;> first | exact wpAny_pure q | exact wpAny_rule q) ho hex hd al1 nd1 hm1 hl1 hb1 q1 q2 hle1 fun h' sb r => wpAny_pure (hQ _ h' sb r)
end
end Gs

set_option Elab.async false
set_option linter.all false
set_option maxRecDepth 100000
set_option maxHeartbeats 4000000
namespace Gs
open PySem L2 PySem.Spec PyProof.Rows
section
variable {P : Program} {w : World}
theorem al_strs {es : List (Int × Value)} {ks : List Str} (h : Al (PySem.strKind P w) es ks) : StrsAre (es.map (·.2)) ks := by
  induction h with
  | nil => exact .nil
  | cons h _ ih =>
    obtain ⟨t, e⟩ := Value.isStrOf_shape h.1
    rw [List.map_cons, e]
    exact .cons _ t ih
variable {A : Around} {E : Value → Shared → Prop} {s : Shared} {a : Addr} {L : List Str}
/-- sorted(set), a set of texts -/
theorem sorted_gs {Q : Value → Shared → Prop} (G : GS (PySem.strKind P w) s.heap a L) (hh : A.handled = none) (h64 : L.length < 64)
    (hQ : ∀ s' p (out : Array Value) (c : Nat) (ss : List Str), (∀ b o, s.heap.get? b = some o → s'.heap.get? b = some o) → s'.gens = s.gens → s'.os = s.os → s.heap.objs.size ≤ p →
      s'.heap.get? p = some (seqObj "list" out c) → StrsAre out.toList ss → sortedS ss = true → ss.Nodup → (∀ x, x ∈ ss ↔ x ∈ L) → ss.length ≤ L.length → Q (.ref p) s') :
    wpAny (model P w) A (call (.builtin "sorted") [.ref a]) Q E s := by
  obtain ⟨o, es, ep, t, ks, ho, hex, hd, al, nd, hm, hl, hb, hf, hr, hle⟩ := G
  have ste := al_strs al
  refine Calls.call_function_entry kind_sorted plain_sorted entry_sorted (args_sorted1 _) ?_
  unfold Builtin.«sorted»
  refine wpAny_bind (m := checkCount "sorted" 1 1 _) (wpAny_pure ?_)
  refine wpAny_bind (collect_set (A := A.in1) hh ⟨o, ho, hex.1, hd⟩ hf hb hr hle fun s1 vs k1 hz g1 o1 pm => ?_)
  have vlen : vs.length = ks.length := by rw [pm.length_eq, List.length_map, al.len]
  have v64 : vs.length < 64 := by rw [vlen]; omega
  have st1 : StrsAre vs (vs.map strOf) := strsAre_map vs fun v hv => ste.all v (pm.mem_iff.mp hv)
  have pk : (vs.map strOf).Perm ks := by
    have q := pm.map strOf
    rwa [ste.strs] at q
  refine wpAny_bind (wpAny_newList ?_ (Nat.le_trans (Nat.le_of_lt v64) (by rw [sizeLine_eq]; omega)))
  have at1 : (s1.heap.push (seqObj "list" vs.toArray 0)).get? s1.heap.objs.size = some (seqObj "list" vs.toArray 0) := Heap.get?_push_size _ rfl
  refine wpAny_bind (wpAny_holding (wpAny_call_entry slot_list_sort ⟨_, at1, rfl⟩ entry_list_sort (list_sort_treeK strKind_oneLt at1 st1.keysOf (fun v₁ v₂ rest e => keyKind_strs (by rw [← e]; exact st1)) v64 fun st' hp hs => ⟨_, rfl, ?_⟩) (args_list_sort _)))
  obtain ⟨ss, h1, h2, h3⟩ := sorted_out_str st1 hp hs
  obtain ⟨c, hc⟩ := sortedHeap_at (vs := vs) (out := (arrOf st').map (·.2)) at1
  have pn := h2.trans pk
  refine wpAny_pure ⟨_, rfl, hQ _ s1.heap.objs.size _ c ss (fun b u e => ?_) g1 o1 hz hc h1 h3 (pn.nodup_iff.mpr nd) (fun x => pn.mem_iff.trans (hm x)) (pn.length_eq ▸ hl)⟩
  have q := k1 b u e
  have hlt := Heap.lt_size q
  show (sortedHeap (s1.heap.push (seqObj "list" vs.toArray 0)) s1.heap.objs.size vs ((arrOf st').map (·.2))).get? b = some u
  rw [sortedHeap_old (Nat.ne_of_lt hlt) (by rw [size_push']; exact Nat.lt_succ_of_lt hlt)]
  exact Heap.get?_push_of_some _ q
end
section
variable {P : Program} {w : World} {κ : Type} [DecidableEq κ] {knd : PySem.KeyKind P w κ} {A : Around} {E : Value → Shared → Prop} {s : Shared}
/-- a value that tells the key k -/
def Told (knd : PySem.KeyKind P w κ) (k : κ) (v : Value) : Prop := knd.is k v = true ∧ v.scannable = true ∧ ((∃ i u, v = .int i u) ∨ ∃ x u, v = .str x u)
theorem gs_fresh {h : Heap} {a : Addr} (ho : h.get? a = some { cls := .type "set", dict := none, data := .set #[] 0 (.fresh 0 0 (!w.params.followText "set-order")) }) : GS knd h a ([] : List κ) := by
  refine ⟨_, #[], 0, _, [], ho, ⟨rfl, rfl, rfl⟩, rfl, .nil, List.nodup_nil, fun _ => Iff.rfl, Nat.le_refl _, by decide, by rfl, List.Pairwise.nil, ?_⟩
  show _ ∨ (!w.params.followText "set-order") = true
  cases w.params.followText "set-order"
  · exact .inr rfl
  · exact .inl rfl
/-- set.update, key by key -/
theorem gs_loop {I : Addr} {fp wr : List Addr} {G : Array GenState → Array GenState → Prop} {n : Nat} {Pv : Nat → Value → Prop} {St : Nat → Shared → Prop} {R : Result → Shared → Prop} (W : WalksS P w A.in1 I fp wr G n Pv St) (S : Addr) (hSf : S ∉ fp)
    (ks : List κ) (hn : n = ks.length) (hb : ks.length + 1 < scanBound) (hval : ∀ i v, Pv i v → ∃ k, ks[i]? = some k ∧ Told knd k v) :
    ∀ (m i : Nat) (s : Shared) (L : List κ), n - i = m → i ≤ n → St i s → L.length = i → (∀ k, k ∈ L ↔ k ∈ ks.take i) → GS knd s.heap S L →
      (∀ s' L', Moved (S :: wr) G s s' → L'.length = n → (∀ k, k ∈ L' ↔ k ∈ ks) → GS knd s'.heap S L' → R (.ok (.ret .none)) s') → codeAny (model P w) A (.builtin "set.update.loop" ⟨[.ref S, .ref I], []⟩) R s := by
  have hSw : S ∉ wr := fun h => hSf (W.sub _ h)
  have sub : ∀ b ∈ wr, b ∈ S :: wr := fun b hb => List.mem_cons_of_mem _ hb
  intro m
  induction m with
  | zero =>
    intro i s L hm hi st hL hk G hR
    obtain rfl : i = n := by omega
    refine codeAny_builtin F.entry_set_update_loop ?_
    rw [Around.under_plainId F.plain_set_update_loop _]
    refine wpAny_bind (W.done s _ _ st fun s' mv => wpAny_pure (hR s' L (mv.mono sub) hL (fun k => ?_) (G.at fun o e => mv.heap S o hSw e)))
    rw [hk k, List.take_of_length_le (Nat.le_of_eq hn.symm)]
  | succ m ih =>
    intro i s L hm hi st hL hk G hR
    have lt : i < n := by omega
    refine codeAny_builtin F.entry_set_update_loop ?_
    rw [Around.under_plainId F.plain_set_update_loop _]
    refine wpAny_bind (W.item i s _ _ lt st fun v s' pv st' mv => ?_)
    obtain ⟨k, ek, tk⟩ := hval i v pv
    have G' : GS knd s'.heap S L := G.at fun o e => mv.heap S o hSw e
    show wpAny _ A.in1 (holding [v] (setAdd S v) >>= _) _ _ s'
    refine wpAny_bind (wpAny_holding ?_)
    unfold setAdd
    refine wpAny_holding (wpAny_bind (knd.pyHash tk.1 ?_))
    refine gs_add (s := { s' with toks := s'.toks + 1 }) tk.1 tk.2.1 tk.2.2 G' (by omega) fun b h' sb G2 => ?_
    refine wpAny_pure ⟨plainId_quiet F.plain_set_update_loop _, ih (i + 1) _ (k :: L) (by omega) lt (W.frame _ s' _ _ st' (Nat.le_succ _) fun c hc o e => ?_) (by rw [List.length_cons, hL]) (fun j => ?_) G2 fun s2 L2 mv2 l2 k2 g2 => ?_⟩
    · rw [sb.2 c (fun z : c = S => hSf (z ▸ hc))]; exact e
    · rw [List.take_add_one, ek, List.mem_cons, hk j]
      simp [or_comm]
    · refine hR s2 L2 (Moved.trans W.gtrans ((mv.mono sub).then_heap (Nat.le_succ _) fun c o hc e => ?_) mv2) l2 k2 g2
      rw [sb.2 c (fun z : c = S => hc (by rw [z]; exact List.mem_cons_self))]; exact e
end
end Gs

set_option Elab.async false
set_option linter.all false
set_option maxRecDepth 100000
set_option maxHeartbeats 4000000
namespace Gs
open PySem L2 PySem.Spec PyProof.Rows
section
variable {P : Program} {w : World} {κ : Type} [DecidableEq κ] {knd : PySem.KeyKind P w κ} {A : Around} {E : Value → Shared → Prop} {s : Shared}
def emptySet (w : World) : Obj := { cls := .type "set", dict := none, data := .set #[] 0 (.fresh 0 0 (!w.params.followText "set-order")) }
/-- set.__init__ of the new set S by a list -/
theorem init_gs {l S : Addr} {items : Array Value} {ks : List κ} {Q : Value → Shared → Prop} {h : Heap} (hh : A.handled = none) (hl : h.IsList l items) (eS : S = h.objs.size) (hit : ∀ (i : Nat) (v : Value), items[i]? = some v → ∃ k, ks[i]? = some k ∧ Told knd k v) (hn : items.size = ks.length) (hb : ks.length + 1 < scanBound)
    (hQ : ∀ (h' : Heap) (tk : Nat) (L : List κ), (∀ b o, h.get? b = some o → h'.get? b = some o) → GS knd h' S L → (∀ k, k ∈ L ↔ k ∈ ks) → L.length = ks.length → Q .none { s with heap := h', toks := tk }) :
    codeAny (model P w) A (.call (.builtin "set.__init__") ⟨[.ref S, .ref l], []⟩) (wants Q E) { s with heap := h.push (emptySet w) } := by
  subst eS
  have atS : (h.push (emptySet w)).get? h.objs.size = some (emptySet w) := Heap.get?_push_size _ rfl
  refine codeAny_call_builtin F.called_set.init.plain F.entry_set_init (check_set_init_1 ⟨_, atS, rfl⟩ ?_)
  obtain ⟨ol, hol, hcl, nl, hdl⟩ := hl
  obtain ⟨c0, d0, dt0, sl0⟩ := ol
  simp only at hcl hdl
  subst hcl; subst hdl
  have hol' : (h.push (emptySet w)).get? l = some { cls := .type "list", dict := d0, data := .seq items nl, slots := sl0 } := Heap.get?_push_of_some _ hol
  have f1 := F.sub_list_set
  have f2 := F.sub_list_frozenset
  have f3 : (Value.type "list" == Value.type "dict") = false := by decide
  have il : (h.push (emptySet w)).IsList l items := ⟨_, hol', rfl, nl, rfl⟩
  unfold Builtin.«set.__init__» noKeywords Builtin.Frozenset.updateFrom
  generalize hPI : pyIter = PI
  wp_walk
  subst hPI
  refine wpAny_pyIter_list il ?_
  refine wpAny_bind (wpAny_runValue ?_)
  have lt : l < h.objs.size := Heap.lt_size hol
  have sz : (h.push (emptySet w)).objs.size = h.objs.size + 1 := Heap.size_push ..
  have hh3 : A.in1.in1.handled = none := by simp [hh]
  have neI : l ≠ (h.push (emptySet w)).objs.size := by rw [sz]; exact Nat.ne_of_lt (Nat.lt_succ_of_lt lt)
  have nS : h.objs.size ∉ [(h.push (emptySet w)).objs.size, l] := by
    rw [sz]
    simp only [List.mem_cons, List.not_mem_nil, or_false, not_or]
    exact ⟨Nat.ne_of_lt (Nat.lt_succ_self _), Nat.ne_of_gt lt⟩
  refine gs_loop (knd := knd) ((Walks.list hh3 _ l neI items).toS) h.objs.size nS ks hn hb hit (items.size - 0) 0 _ [] (by omega) (Nat.zero_le _) ⟨⟨_, Heap.get?_push_size _ rfl, rfl, rfl⟩, (il.push _)⟩ rfl (fun k => by simp) (gs_fresh (Heap.get?_push_of_some _ atS)) fun s' L mv hL hk G => ?_
  obtain ⟨h', g', dr', tk', os'⟩ := s'
  obtain rfl : g' = s.gens := mv.gens
  obtain rfl : dr' = s.drawn := mv.drawn
  obtain rfl : os' = s.os := mv.os
  refine wpAny_pure ?_
  refine wpAny_pure (hQ h' tk' L (fun b o e => ?_) G hk (hL.trans hn))
  have hb0 := Heap.lt_size e
  refine mv.heap b o ?_ (Heap.get?_push_of_some _ (Heap.get?_push_of_some _ e))
  rw [sz]
  simp only [List.mem_cons, List.not_mem_nil, or_false, not_or]
  exact ⟨Nat.ne_of_lt hb0, Nat.ne_of_lt (Nat.lt_succ_of_lt hb0)⟩
set_option maxHeartbeats 8000000 in
/-- set(l), l a list -/
theorem call_gs {l : Addr} {items : Array Value} {ks : List κ} {Q : Value → Shared → Prop} (hh : A.handled = none) (hl : s.heap.IsList l items) (hit : ∀ (i : Nat) (v : Value), items[i]? = some v → ∃ k, ks[i]? = some k ∧ Told knd k v) (hn : items.size = ks.length) (hb : ks.length + 1 < scanBound)
    (hQ : ∀ (h' : Heap) (tk : Nat) (L : List κ), (∀ b o, s.heap.get? b = some o → h'.get? b = some o) → GS knd h' s.heap.objs.size L → (∀ k, k ∈ L ↔ k ∈ ks) → L.length = ks.length → Q (.ref s.heap.objs.size) { s with heap := h', toks := tk }) :
    wpAny (model P w) A (call (.type "set") [.ref l]) Q E s := by
  obtain ⟨c, tl, hmro⟩ := F.called_set.mro
  have e1 := F.called_set.made
  have e2 := F.called_set.sub
  refine wpAny_call (codeAny_of_tree ?_)
  show wpAny _ _ (callAny (.type "set") _) _ _ _
  refine wpAny_pure ⟨Code.quiet_builtin _ (by decide +kernel), codeAny_builtin F.entry_type_call ?_⟩
  rw [Around.under_plain (weight_type_call_type "set" [.ref l] []) rfl]
  have e3 := F.called_set.notType
  have e4 := F.called_set.canCreate
  have e5 := F.typeCall_set_1 (.ref l)
  repeat (any_goals (first | assumption | wp_step))
  refine codeAny_mono (code_set_led1 (.ref l) (E := E) (Q₁ := fun obj s₁ => obj = .ref s.heap.objs.size ∧ s₁ = { s with heap := s.heap.push (emptySet w) }) ⟨rfl, rfl⟩) fun r s₁ hr => ?_
  cases r with
  | error e => exact hr
  | ok fl =>
    cases fl with
    | ret obj =>
      obtain ⟨rfl, rfl⟩ := hr
      have atS : (s.heap.push (emptySet w)).get? s.heap.objs.size = some (emptySet w) := Heap.get?_push_size _ rfl
      have hT : Shared.TypeIs { s with heap := s.heap.push (emptySet w) } (.ref s.heap.objs.size) "set" := ⟨_, atS, rfl⟩
      have e6 := F.called_set.init.lookup
      have e7 := F.called_set.init.bind (.ref s.heap.objs.size)
      repeat (any_goals (first | assumption | wp_step))
      refine codeAny_mono (init_gs (knd := knd) (ks := ks) (s := s) (h := s.heap) (E := E) (Q := fun r s₂ => r = .none ∧ ∃ h' tk L, s₂ = { s with heap := h', toks := tk } ∧ (∀ b o, s.heap.get? b = some o → h'.get? b = some o) ∧ GS knd h' s.heap.objs.size L ∧ (∀ k, k ∈ L ↔ k ∈ ks) ∧ L.length = ks.length)
        (by simp [hh]) hl rfl hit hn hb fun h' tk L a b c d => ⟨rfl, h', tk, L, rfl, a, b, c, d⟩) fun r₂ s₂ hr₂ => ?_
      cases r₂ with
      | error e => exact hr₂
      | ok fl₂ =>
        cases fl₂ with
        | ret r =>
          obtain ⟨rfl, h', tk, L, rfl, a, b, c, d⟩ := hr₂
          repeat (any_goals (first | assumption | wp_step))
          exact hQ h' tk L a b c d
        | _ => exact hr₂.elim
    | _ => exact hr.elim
end
/-! ### sorted(set(l)), l a list of texts -/
def rSetS (K : PySem.W.Frag) (P : Program) (w : World) : List V → Hp → VK → Prop := fun xs H Q => ∃ (l : Addr) (ss : List Str), xs = [.ref l] ∧ SqL K H l (ss.map V.str) ∧ ss.length < 60 ∧
  ∀ p L, H p = none → (∀ x, x ∈ L ↔ x ∈ ss) → L.length = ss.length → Q (.ref p) (upd H p (.ext fun h => GS (PySem.strKind P w) h p L))
section
variable {X : Cx}
theorem gs_ok {P : Program} {w : World} {H : Hp} {h : Heap} {a : Addr} {L : List Str} (G : GS (PySem.strKind P w) h a L) : ObjOk P w H h a (.ext fun h => GS (PySem.strKind P w) h a L) := by
  obtain ⟨o, es, ep, t, ks, ho, r⟩ := G
  exact ⟨⟨o, es, ep, t, ks, ho, r⟩, ⟨o, ho⟩, fun h1 h2 G k => G.at fun o e => k _ e⟩
theorem cr_setS (hc : X.calm = true) : CallR X (.type "set") (rSetS X.K X.prog X.w) := by
  intro pins s σ H xs us Q I r h
  obtain ⟨l, ss, rfl, hs, hl, q⟩ := h
  obtain ⟨its, rv, il, hz⟩ := I.list hs
  obtain ⟨u, rfl, ru⟩ := vals1 r
  obtain rfl : u = Value.ref l := ru
  have st := rv.strs
  have ln : its.length = ss.length := by rw [← rv.length, List.length_map]
  refine call_gs (knd := PySem.strKind X.prog X.w) (ks := ss) (items := its.toArray) (I.ok.hd hc) il.isList (fun i v e => ?_) (by simpa using ln) (by unfold scanBound; omega) fun h' tk L kp G hm hL => ?_
  · have hi : i < ss.length := by
      have := (Array.getElem?_eq_some_iff.mp e).1
      simp at this; omega
    obtain ⟨t, ev⟩ := SS.strs_at st i v (by simpa using e)
    refine ⟨ss[i], List.getElem?_eq_getElem hi, ?_⟩
    have e2 : ss.getD i Str.empty = ss[i] := by simp [List.getD, hi]
    rw [ev, e2]
    exact ⟨strKind_is _ _ _ _, rfl, .inr ⟨_, _, rfl⟩⟩
  · have hn : H s.heap.objs.size = none := I.hok.fresh (Nat.le_refl _)
    exact ⟨.ref s.heap.objs.size, _, I.laid (t' := tk) kp (Nat.le_refl _) (gs_ok G), rfl, q _ L hn hm hL⟩
def rSortS (P : Program) (w : World) : List V → Hp → VK → Prop := fun xs H Q => ∃ (a : Addr) (L : List Str), xs = [.ref a] ∧ H a = some (.ext fun h => GS (PySem.strKind P w) h a L) ∧ L.length < 60 ∧
  ∀ (ss : List Str) (p : Addr), sortedS ss = true → ss.Nodup → (∀ x, x ∈ ss ↔ x ∈ L) → ss.length ≤ L.length → H p = none → Q (.ref p) (upd H p (.lst (ss.map V.str)))
theorem cr_sortS (hc : X.calm = true) : CallR X (.builtin "sorted") (rSortS X.prog X.w) := by
  intro pins s σ H xs us Q I r h
  obtain ⟨a, L, rfl, ha, hl, q⟩ := h
  obtain ⟨u, rfl, ru⟩ := vals1 r
  obtain rfl : u = Value.ref a := ru
  have G : GS (PySem.strKind X.prog X.w) s.heap a L := (I.hok a _ ha).1
  refine sorted_gs G (I.ok.hd hc) (by omega) fun s' p out c ss k g o hp hg hi hs nd hm hl' => ?_
  have hlen : (ss.map V.str).length ≤ sizeLine := by rw [List.length_map, sizeLine_eq]; omega
  have hn : H p = none := I.hok.fresh hp
  have J : Inv X pins σ (upd H p (.lst (ss.map V.str))) { s with heap := s'.heap, gens := s'.gens, drawn := s'.drawn, toks := s'.toks } :=
    I.call (ch := []) (Un.laid k hp hn) (I.hok.laid k hp ⟨hlen, out.toList, c, vals_of_strs hi, hg⟩) (by rw [g]; exact I.bare) (fun _ z => nomatch z)
  have e : s' = { s with heap := s'.heap, gens := s'.gens, drawn := s'.drawn, toks := s'.toks } := by
    obtain ⟨_, _, _, _, _⟩ := s'
    obtain ⟨_, _, _, _, _⟩ := s
    cases o
    rfl
  rw [e]
  exact ⟨.ref p, _, J, rfl, q ss p hs nd hm hl' hn⟩
end
end Gs

set_option Elab.async false
set_option linter.all false
set_option maxRecDepth 100000
set_option maxHeartbeats 4000000
namespace Own
open PySem L2 Lay PySem.Spec PyProof.Rows ClX
/-! ### lists of entries -/
/-- x is a tuple that is the entry e -/
def EntT (H : Hp) (x : V) (e : Ent) : Prop := ∃ t, x = .ref t ∧ H t = some (.tup [.int e.1, .int e.2.1, .str e.2.2])
inductive EL (H : Hp) : List V → List Ent → Prop where
  | nil : EL H [] []
  | cons {x : V} {e : Ent} {xs : List V} {es : List Ent} (h : EntT H x e) (r : EL H xs es) : EL H (x :: xs) (e :: es)
section
variable {H H' : Hp} {x y : V} {e f : Ent} {xs ys : List V} {es fs : List Ent}
theorem EntT.same (h : EntT H x e) (s : Same H H') : EntT H' x e := by
  obtain ⟨t, rfl, h⟩ := h
  exact ⟨t, rfl, s _ _ h⟩
theorem EntT.fn (h : EntT H x e) (h' : EntT H x f) : e = f := by
  obtain ⟨t, rfl, h⟩ := h
  obtain ⟨t', z, h'⟩ := h'
  cases z
  rw [h] at h'
  obtain ⟨a, b, c⟩ := e
  obtain ⟨a', b', c'⟩ := f
  simp only [Option.some.injEq, HO.tup.injEq, List.cons.injEq, V.int.injEq, V.str.injEq, and_true] at h'
  obtain ⟨rfl, rfl, rfl⟩ := h'
  rfl
theorem EL.same (h : EL H xs es) (s : Same H H') : EL H' xs es := by
  induction h with
  | nil => exact .nil
  | cons h _ ih => exact .cons (h.same s) ih
theorem EL.len (h : EL H xs es) : xs.length = es.length := by
  induction h with
  | nil => rfl
  | cons _ _ ih => rw [List.length_cons, List.length_cons, ih]
theorem EL.app (h : EL H xs es) (g : EL H ys fs) : EL H (xs ++ ys) (es ++ fs) := by
  induction h with
  | nil => exact g
  | cons h _ ih => exact .cons h ih
theorem EL.at (h : EL H xs es) {i : Nat} (q : xs[i]? = some x) : ∃ e, es[i]? = some e ∧ EntT H x e := by
  induction h generalizing i with
  | nil => simp at q
  | cons h _ ih =>
    cases i with
    | zero => simp at q; subst q; exact ⟨_, rfl, h⟩
    | succ i => simp at q; obtain ⟨e, h1, h2⟩ := ih q; exact ⟨e, by simpa using h1, h2⟩
theorem EL.of_at (n : xs.length = es.length) (h : ∀ (i : Nat) (x : V) (e : Ent), xs[i]? = some x → es[i]? = some e → EntT H x e) : EL H xs es := by
  induction xs generalizing es with
  | nil => cases es with | nil => exact .nil | cons _ _ => cases n
  | cons x xs ih =>
    cases es with
    | nil => cases n
    | cons e es => exact .cons (h 0 _ _ rfl rfl) (ih (Nat.succ.inj n) fun i x e a b => h (i + 1) x e a b)
theorem EL.mem (h : EL H xs es) (q : x ∈ xs) : ∃ e ∈ es, EntT H x e := by
  obtain ⟨i, hi⟩ := List.mem_iff_getElem?.mp q
  obtain ⟨e, h1, h2⟩ := h.at hi
  exact ⟨e, List.mem_of_getElem? h1, h2⟩
theorem EL.take (h : EL H xs es) (n : Nat) : EL H (xs.take n) (es.take n) := by
  induction h generalizing n with
  | nil => simp; exact .nil
  | cons h _ ih =>
    cases n with
    | zero => simp; exact .nil
    | succ n => simp; exact .cons h (ih n)
theorem EL.drop (h : EL H xs es) (n : Nat) : EL H (xs.drop n) (es.drop n) := by
  induction h generalizing n with
  | nil => simp; exact .nil
  | cons h r ih =>
    cases n with
    | zero => simp; exact .cons h r
    | succ n => simp; exact ih n
/-- what the heap says of a tuple -/
def entOf (H : Hp) : V → Ent
  | .ref t => match H t with
    | some (.tup [.int a, .int b, .str c]) => (a, b, c)
    | _ => (0, 0, "")
  | _ => (0, 0, "")
theorem EntT.of (h : EntT H x e) : entOf H x = e := by
  obtain ⟨t, rfl, h⟩ := h
  show (match H t with | some (.tup [.int a, .int b, .str c]) => (a, b, c) | _ => (0, 0, "")) = e
  rw [h]
theorem EL.map (h : EL H xs es) : es = xs.map (entOf H) := by
  induction h with
  | nil => rfl
  | cons h _ ih => rw [List.map_cons, h.of, ← ih]
theorem EL.of_map (h : ∀ x ∈ xs, EntT H x (entOf H x)) : EL H xs (xs.map (entOf H)) := by
  induction xs with
  | nil => exact .nil
  | cons x xs ih => exact .cons (h x (List.mem_cons_self ..)) (ih fun y hy => h y (List.mem_cons_of_mem _ hy))
theorem EL.ents (h : EL H xs es) : ∀ x ∈ xs, EntT H x (entOf H x) := fun x hx => by
  obtain ⟨e, _, q⟩ := h.mem hx
  rw [q.of]; exact q
theorem EL.perm (h : EL H xs es) (p : ys.Perm xs) : EL H ys (ys.map (entOf H)) ∧ (ys.map (entOf H)).Perm es := by
  refine ⟨.of_map fun y hy => h.ents y (p.mem_iff.mp hy), ?_⟩
  rw [h.map]
  exact p.map _
end
/-! ### < and sorted -/
/-- what x < y says -/
inductive Cm (H : Hp) : V → V → Bool → Prop where
  | ent {x y : V} {e f : Ent} (h : EntT H x e) (g : EntT H y f) : Cm H x y (entLt e f)
  | str (a b : Str) : Cm H (.str a) (.str b) (strLt a b)
section
variable {X : Cx}
theorem isE_of {pins : List (Addr × Obj)} {σ : L2.St} {H : Hp} {s : Shared} {x : V} {u : Value} {e : Ent} (I : Inv X pins σ H s) (r : RelV x u) (h : EntT H x e) : IsE s.heap u e := by
  obtain ⟨t, rfl, h⟩ := h
  cases (show u = Value.ref t from r)
  obtain ⟨_, its, rv, o, ho, hc, n, hd⟩ := (show ObjOk X.prog X.w H s.heap t (.tup _) from I.hok t _ h)
  cases rv with
  | cons r1 rv =>
    cases rv with
    | cons r2 rv =>
      cases rv with
      | cons r3 rv =>
        cases rv
        obtain ⟨t1, rfl⟩ := r1
        obtain ⟨t2, rfl⟩ := r2
        obtain ⟨t3, rfl⟩ := r3
        exact ⟨t, o, t1, t2, t3, n, rfl, ho, hc, hd⟩
def rLtV : R2 := fun x y H Q => ∃ b, Cm H x y b ∧ Q (.bl b) H
theorem op_ltV (hu : X.A.units < cLine) : OpR X (compareOp .Lt) rLtV := by
  intro pins s σ H x y v u Q I rx ry h
  obtain ⟨b, c, q⟩ := h
  cases c with
  | str a b => exact op_lt_str pins s σ H _ _ v u Q I rx ry ⟨a, b, rfl, rfl, q⟩
  | @ent x y e f h g =>
    obtain ⟨a, o, t1, t2, t3, n, rfl, ho, hc, hd⟩ := isE_of I rx h
    obtain ⟨a', o', u1, u2, u3, n', rfl, ho', hc', hd'⟩ := isE_of I ry g
    obtain ⟨x1, x2, x3⟩ := e
    obtain ⟨y1, y2, y3⟩ := f
    have R := Ob.RcOp.tuples_lt (A := X.A) (s := s) (e := fun j => match j with | 0 => decide (x1 = y1) | 1 => decide (x2 = y2) | _ => decide (x3 = y3)) (r := fun j => match j with | 0 => decide (x1 < y1) | 1 => decide (x2 < y2) | _ => strLt x3 y3)
      ⟨o, ho, hc, n, hd⟩ ⟨o', ho', hc', n', hd'⟩ hu (fun j h1 h2 => ?_) (fun j h1 h2 _ => ?_)
    · have z : wpAny (model X.prog X.w) X.A (compareOp .Lt (.ref a) (.ref a')) (EP X pins σ Q) X.xe s := by
        refine R X.prog X.w X.xe (EP X pins σ Q) ?_
        refine ⟨.bl (entLt (x1, x2, x3) (y1, y2, y3)), H, I, ?_, q⟩
        show Value.bool _ = Value.bool _
        congr 1
        show Ob.lexAt _ _ (decide (3 < 3)) 0 3 = _
        simp only [Ob.lexAt, entLt]
        by_cases c1 : x1 = y1
        · by_cases c2 : x2 = y2
          · by_cases c3 : x3 = y3
            · subst c3; simp [c1, c2, tot_str.irr]
            · simp [c1, c2, c3]
          · simp [c1, c2]
        · simp [c1]
      exact z
    · have bq : ∀ {α : Type} [DecidableEq α] (p q : α), (p == q) = decide (p = q) := fun p q => by
        by_cases z : p = q
        · rw [decide_eq_true z]; exact beq_iff_eq.mpr z
        · rw [decide_eq_false z]; exact beq_eq_false_iff_ne.mpr z
      match j, h1, h2 with
      | 0, _, _ => show SeqAt.EqAt _ _ (.int x1 t1) (.int y1 u1) (decide (x1 = y1)); rw [← bq]; exact SeqAt.EqAt.int_int _ _ _ _
      | 1, _, _ => show SeqAt.EqAt _ _ (.int x2 t2) (.int y2 u2) (decide (x2 = y2)); rw [← bq]; exact SeqAt.EqAt.int_int _ _ _ _
      | 2, _, _ =>
        show SeqAt.EqAt _ _ (.str x3 t3) (.str y3 u3) (decide (x3 = y3))
        have z := SeqAt.EqAt.str_str (A := X.A.in1) (s := s) x3 t3 y3 u3
        have e : (x3 == y3) = decide (x3 = y3) := by
          by_cases c : x3 = y3
          · subst c; simp
          · rw [decide_eq_false c]; exact beq_eq_false_iff_ne.mpr c
        rw [e] at z; exact z
      | j + 3, h1, _ => exact absurd h1 (by simp)
    · match j, h1, h2 with
      | 0, _, _ => exact Ob.RcOp.lt_int _ _ _ _
      | 1, _, _ => exact Ob.RcOp.lt_int _ _ _ _
      | 2, _, _ => exact fun prog w E Q hq => PyProof.Rows.lt_str hq
      | j + 3, h1, _ => exact absurd h1 (by simp)
/-- sorted(xs), xs a list of entries -/
def rSortE (K : PySem.W.Frag) : List V → Hp → VK → Prop := fun vs H Q => ∃ (a : Addr) (xs : List V) (es : List Ent), vs = [.ref a] ∧ SqL K H a xs ∧ EL H xs es ∧
  ∀ ys fs p, EL H ys fs → Sd entLt fs → fs.Perm es → H p = none → Q (.ref p) (upd H p (.lst ys))
theorem cr_sortE : CallR X (.builtin "sorted") (rSortE X.K) := by
  intro pins s σ H vs us Q I r h
  obtain ⟨a, xs, es, rfl, hs, el, q⟩ := h
  obtain ⟨its, rv, hl, hz⟩ := I.list hs
  obtain ⟨u, rfl, ru⟩ := vals1 r
  obtain rfl : u = Value.ref a := ru
  obtain ⟨e1, e2⟩ := refs_back rv fun x m => by
    obtain ⟨e, _, t, h, _⟩ := el.mem m
    exact ⟨t, h⟩
  have hk : ∀ v ∈ its, IsE s.heap v (entOf H (backV v)) := fun v hv => by
    obtain ⟨t, rfl⟩ := e2 v hv
    have hm : V.ref t ∈ xs := by rw [e1]; exact List.mem_map.mpr ⟨_, hv, rfl⟩
    exact isE_of I (x := .ref t) rfl (el.ents _ hm)
  refine SrtO.sorted_ord (ltv := fun v u => entLt (entOf H (backV v)) (entOf H (backV u))) ⟨fun x y => tot_ent.swo.asym _ _, fun x y z => tot_ent.swo.tr _ _ _⟩ hl.isList (by rw [← rv.length]; exact hz) (fun h2 h₁ b hb kk => ?_) fun out hs hb => ?_
  · refine ents_sortableO (s := { s with heap := h₁ }) (k := fun v => entOf H (backV v)) (by omega) (fun v hv => (hk v hv).keeps fun b o e _ => (kk b o e).2) fun o e => ?_
    have e' : some o = some (seqObj "list" its.toArray 0) := e.symm.trans hb
    cases e'
    intro c
    exact absurd (Value.type.inj c) (by decide)
  · obtain ⟨n, hn⟩ := sortedAll_at s.heap its out.toArray
    have h3 : ∀ u ∈ out, ∃ a, u = Value.ref a := fun u hu => e2 u (hb.perm.mem_iff.mp hu)
    have pm : (out.map backV).Perm xs := by rw [e1]; exact hb.perm.map _
    obtain ⟨el2, pm2⟩ := el.perm pm
    have hlen : (out.map backV).length ≤ sizeLine := by rw [pm.length_eq]; exact hz
    refine ⟨.ref _, upd H (s.heap.objs.size + 1) (.lst (out.map backV)), I.laid (t' := s.toks) (fun _ _ => sortedAll_old) (Nat.le_succ _) ⟨hlen, out, n, vals_back h3, hn⟩, rfl, q _ _ _ el2 ?_ pm2 (I.hok.fresh (Nat.le_succ _))⟩
    have z : out.Pairwise (fun v u => entLt (entOf H (backV u)) (entOf H (backV v)) = false) := hs
    show ((out.map backV).map (entOf H)).Pairwise _
    rw [List.map_map]
    exact List.Pairwise.map _ (fun a b h => h) z
end
end Own

set_option Elab.async false
set_option linter.all false
set_option maxRecDepth 100000
set_option maxHeartbeats 4000000
namespace Own
open PySem L2 Lay PySem.Spec PyProof.Rows ClX
section
variable {X : Cx} {k : Nat} {f g C : Addr} {sp : Sp}
/-- the answer is a truth, a count, a text -/
def asB (Q : VK) : VK := fun v H => ∃ b, v = .bl b ∧ Q (.bl b) H
def asN (Q : VK) : VK := fun v H => ∃ i : Nat, v = .int i ∧ i < 1000000 ∧ Q (.int i) H
def asS (Q : VK) : VK := fun v H => ∃ z, v = .str z ∧ Q (.str z) H
theorem run_own {pins : List (Addr × Obj)} {σ : L2.St} {H : Hp} {s : Shared} {A : Around} {us : List Value} {vs : List V} {Q : VK} (F : FnP X.prog X.w X.K X.mg X.base k g sp) (hr : Room k A) (hg : A.guards = some []) (e0 : Env0 X.prog X.w X.K X.mg X.base A X.stack s H)
    (I : Inv X pins σ H s) (r : Vals vs us) (h : sp vs H Q E0) : wpAny (model X.prog X.w) A (call (.ref g) us) (EP X pins σ Q) X.xe s := wpAny_call (run_P F hr hg e0 I r h)
/-- x in o -/
def rInP (C : Addr) (sp : Sp) : R2 := fun x y H Q => ∃ a dx fs, y = .ref a ∧ H a = some (.ins C dx fs) ∧ sp [.ref a, x] H (asB Q) E0
theorem op_inP (hs : PySem.W.findIn X.K (.ref C) "__contains__" = some (some (.ref g))) (hf : PySem.W.isFn X.K (.ref g) = true) (F : FnP X.prog X.w X.K X.mg X.base k g sp) (hr : Room k X.A) (hg : X.A.guards = some []) : OpR X (compareOp .In) (rInP C sp) := by
  intro pins s σ H x y v u Q I rx ry h
  obtain ⟨a, dx, fs, rfl, ha, q⟩ := h
  cases (show u = Value.ref a from ry)
  obtain ⟨mA, O, _⟩ := ins_get I.hok ha
  obtain ⟨od, J, _⟩ := O.look
  show wpAny (model X.prog X.w) X.A (contains (Value.ref a) v >>= fun b => pure (Value.bool b)) (EP X pins σ Q) X.xe s
  refine wpAny_bind (PySem.W.own_contains I.kIn J hs hf (wpAny_mono (run_own (vs := [.ref a, x]) (us := [.ref a, v]) F hr hg I.env0 I (.cons rfl (.cons rx .nil)) q) (fun w s' z => ?_) fun _ _ e => e))
  obtain ⟨v', H', I', rv, b, rfl, q'⟩ := z
  cases (show w = Value.bool b from rv)
  exact ⟨b, rfl, wpAny_pure ⟨.bl b, H', I', rfl, q'⟩⟩
/-- len(o) -/
def rLenP (C : Addr) (sp : Sp) : List V → Hp → VK → Prop := fun xs H Q => ∃ a dx fs, xs = [.ref a] ∧ H a = some (.ins C dx fs) ∧ sp [.ref a] H (asN Q) E0
theorem call_lenP (hs : PySem.W.findIn X.K (.ref C) "__len__" = some (some (.ref g))) (hf : PySem.W.isFn X.K (.ref g) = true) (F : FnP X.prog X.w X.K X.mg X.base k g sp) (hr : Room (k + 1) X.A) (hg : X.A.guards = some []) : CallR X (.builtin "len") (rLenP C sp) := by
  intro pins s σ H xs us Q I r h
  obtain ⟨a, dx, fs, rfl, ha, q⟩ := h
  obtain ⟨u, rfl, ru⟩ := vals1 r
  obtain rfl : u = Value.ref a := ru
  obtain ⟨mA, O, _⟩ := ins_get I.hok ha
  obtain ⟨od, J, _⟩ := O.look
  obtain ⟨m, hF⟩ := I.fr
  refine PySem.W.len_K hF I.ok.mod.kin J hs hf (wpAny_mono (run_own (vs := [.ref a]) (us := [.ref a]) F hr.in1 (g_in1 hg) I.env0.in1 I (.cons rfl .nil) q) (fun w s' z => ?_) fun _ _ e => e)
  obtain ⟨v', H', I', rv, i, rfl, hi, q'⟩ := z
  obtain ⟨t, rfl⟩ := rv
  exact ⟨⟨by omega, by omega⟩, ⟨.int i, H', I'.tok _, ⟨_, rfl⟩, q'⟩⟩
/-- repr(o) -/
def rReprP (C : Addr) (sp : Sp) : List V → Hp → VK → Prop := fun xs H Q => ∃ a dx fs, xs = [.ref a] ∧ H a = some (.ins C dx fs) ∧ sp [.ref a] H (asS Q) E0
theorem call_reprP (hs : PySem.W.findIn X.K (.ref C) "__repr__" = some (some (.ref g))) (hf : PySem.W.isFn X.K (.ref g) = true) (F : FnP X.prog X.w X.K X.mg X.base k g sp) (hr : Room (k + 1) X.A) (hg : X.A.guards = some []) : CallR X (.builtin "repr") (rReprP C sp) := by
  intro pins s σ H xs us Q I r h
  obtain ⟨a, dx, fs, rfl, ha, q⟩ := h
  obtain ⟨u, rfl, ru⟩ := vals1 r
  obtain rfl : u = Value.ref a := ru
  obtain ⟨mA, O, _⟩ := ins_get I.hok ha
  obtain ⟨od, J, _⟩ := O.look
  obtain ⟨m, hF⟩ := I.fr
  refine PySem.W.repr_K hr.in1.units0 hF I.ok.mod.kin J hs hf (wpAny_mono (run_own (vs := [.ref a]) (us := [.ref a]) F hr.in1 (g_in1 hg) I.env0.in1 I (.cons rfl .nil) q) (fun w s' z => ?_) fun _ _ e => e)
  obtain ⟨v', H', I', rv, b, rfl, q'⟩ := z
  obtain ⟨t, rfl⟩ := rv
  exact ⟨.str b, H', I', ⟨t, rfl⟩, q'⟩
/-- o == y, o != y -/
def rEqP (K : PySem.W.Frag) (C : Addr) (sp : Sp) (neg : Bool) : R2 := fun x y H Q => ∃ a dx fs t, x = .ref a ∧ H a = some (.ins C dx fs) ∧ TyX K H y t ∧ PySem.W.notFirst K C t = true ∧
  sp [.ref a, y] H (fun v H' => ∃ b, v = .bl b ∧ Q (.bl (if neg then !b else b)) H') E0
theorem op_eqP (hs : PySem.W.findIn X.K (.ref C) "__eq__" = some (some (.ref g))) (hf : PySem.W.isFn X.K (.ref g) = true) (F : FnP X.prog X.w X.K X.mg X.base k g sp) (hr : Room k X.A) (hg : X.A.guards = some []) : OpR X (compareOp .Eq) (rEqP X.K C sp false) := by
  intro pins s σ H x y v u Q I rx ry h
  obtain ⟨a, dx, fs, t, rfl, ha, ty, nf, q⟩ := h
  cases (show v = Value.ref a from rx)
  obtain ⟨mA, O, _⟩ := ins_get I.hok ha
  obtain ⟨od, J, _⟩ := O.look
  obtain ⟨m, hF⟩ := I.fr
  obtain ⟨Pz, Z, pz, _⟩ := kit_of I ry ty
  show wpAny (model X.prog X.w) X.A (richCompare .Eq (.ref a) u) (EP X pins σ Q) X.xe s
  refine PySem.W.cmp_K (op := .Eq) (tb := t) hr.units0 hF I.ok.mod.kin J (Z.ty _ _ I.kIn pz) nf hs hf (wpAny_mono (run_own (vs := [.ref a, y]) (us := [.ref a, u]) F hr hg I.env0 I (.cons rfl (.cons ry .nil)) q) (fun w s' z => ?_) fun _ _ e => e)
  obtain ⟨v', H', I', rv, b, rfl, q'⟩ := z
  cases (show w = Value.bool b from rv)
  exact ⟨.bl b, H', I', rfl, q'⟩
theorem op_neP (hs : PySem.W.findIn X.K (.ref C) "__eq__" = some (some (.ref g))) (hf : PySem.W.isFn X.K (.ref g) = true) (hne : PySem.W.findIn X.K (.ref C) "__ne__" = some (some (.builtin "object.__ne__"))) (hm : PySem.W.mroIn X.K C (.type "object") = some true)
    (F : FnP X.prog X.w X.K X.mg X.base k g sp) (hr : Room (k + 1) X.A) (hg : X.A.guards = some []) : OpR X (compareOp .NotEq) (rEqP X.K C sp true) := by
  intro pins s σ H x y v u Q I rx ry h
  obtain ⟨a, dx, fs, t, rfl, ha, ty, nf, q⟩ := h
  cases (show v = Value.ref a from rx)
  obtain ⟨mA, O, _⟩ := ins_get I.hok ha
  obtain ⟨od, J, _⟩ := O.look
  obtain ⟨Pz, Z, pz, _⟩ := kit_of I ry ty
  show wpAny (model X.prog X.w) X.A (richCompare .NotEq (.ref a) u) (EP X pins σ Q) X.xe s
  refine PySem.W.own_ne (tb := t) (by have := hr.un; omega) I.kIn J (Z.ty _ _ I.kIn pz) nf hs hf hne hm (wpAny_mono (run_own (vs := [.ref a, y]) (us := [.ref a, u]) F hr.in1 (g_in1 hg) I.env0.in1 I (.cons rfl (.cons ry .nil)) q) (fun w s' z => ?_) fun _ _ e => e)
  obtain ⟨v', H', I', rv, b, rfl, q'⟩ := z
  cases (show w = Value.bool b from rv)
  exact ⟨b, rfl, .bl (!b), H', I', rfl, q'⟩
/-! ### texts of tuples -/
/-- repr(t), t a tuple -/
def rReprT (K : PySem.W.Frag) : List V → Hp → VK → Prop := fun xs H Q => ∃ (p : Addr) (as : List Addr) (ys : List V) (ts : List Str), xs = [.ref p] ∧ H p = some (.tup ys) ∧ Rp.SwL K H as ys ts ∧ p ∉ as ∧ as.length ≤ 30 ∧
  (tupleText ts).length ≤ sizeLine ∧ Q (.str (tupleText ts)) H
theorem call_reprT (hg : X.A.guards = some []) (hu : X.A.units + 200 < cLine) : CallR X (.builtin "repr") (rReprT X.K) := by
  intro pins s σ H xs us Q I r h
  obtain ⟨p, as, ys, ts, rfl, hp, l, hn, ha, hz, q⟩ := h
  obtain ⟨u, rfl, e⟩ := vals1 r
  cases (show u = Value.ref p from e)
  obtain ⟨_, its, rv, o, e1, e2, m, e3⟩ := (show ObjOk X.prog X.w H s.heap p (.tup ys) from I.hok p _ hp)
  have al := Rp.swl_repr I.hok I.kIn l rv (fun t ht => Nat.le_trans (tupleText_mem_le ht) hz)
  refine call_repr_slot (by omega) ⟨_, e1, e2⟩ F.slot_tuple_repr ?_
  refine call_tuple_reprK (A := X.A.in1) e1 e2 e3 hn (by simpa using al) (g := []) (by simpa using hg) (fun b _ => Clear.nil b) (by show X.A.units + 1 + (2 * as.length + 1) < cLine; omega)
    (fun _ _ e => e) (fun h' u tk kp => ⟨_, _, rfl, ⟨.str (tupleText ts), H, I.kept (t' := tk) kp, ⟨_, rfl⟩, q⟩⟩) hz
/-- {t!r} -/
def tFmtT2 (K : PySem.W.Frag) (te : TE) : TE := fun σ H Q => te σ H fun x H1 => ∃ (p : Addr) (as : List Addr) (ys : List V) (ts : List Str), x = .ref p ∧ H1 p = some (.tup ys) ∧ Rp.SwL K H1 as ys ts ∧ p ∉ as ∧ as.length ≤ 30 ∧
  (tupleText ts).length ≤ sizeLine ∧ Q (.str (tupleText ts)) H1
theorem pe_fmtT2 {e : Expr} {te : TE} {pos : Pos} (hg : X.A.guards = some []) (hu : X.A.units + 200 < cLine) (he : PE X e te) : PE X (.FormattedValue e 114 none pos) (tFmtT2 X.K te) := by
  refine ⟨fun pins s σ H Q I h => ?_⟩
  refine wpAny_FormattedValue_repr (thn (he.run pins s σ H _ I h) fun v s1 hv => ?_)
  obtain ⟨x, H1, I1, r1, p, as, ys, ts, rfl, hp, l, hn, ha, hz, q⟩ := hv
  cases (show v = Value.ref p from r1)
  obtain ⟨_, its, rv, o, e1, e2, m, e3⟩ := (show ObjOk X.prog X.w H1 s1.heap p (.tup ys) from I1.hok p _ hp)
  have al := Rp.swl_repr I1.hok I1.kIn l rv (fun t ht => Nat.le_trans (tupleText_mem_le ht) hz)
  have fin : ∀ h' u tk, (∀ b o, s1.heap.get? b = some o → h'.get? b = some o) → wpAny (model X.prog X.w) X.A (formatField (.str (tupleText ts) u) Str.empty) (EP X pins σ Q) X.xe { s1 with heap := h', toks := tk } := fun h' u tk kp =>
    wpAny_formatField_str ⟨.str (tupleText ts), H1, I1.kept (t' := tk) kp, ⟨_, rfl⟩, q⟩ ⟨.str (tupleText ts), H1, I1.kept (t' := tk + 1) kp, ⟨_, rfl⟩, q⟩ hz
  unfold pyReprObj
  refine wpAny_bind (wpAny_cRoomFor (by omega) ?_)
  refine wpAny_bind (wpAny_specialOf (name := Str.ofString "__repr__") (T := "tuple") ⟨_, e1, e2⟩ F.slot_tuple_repr.lookup ?_)
  refine wpAny_bind (m := callSpecialIfBound? (.ref p) (Str.ofString "__repr__")) (wpAny_callSpecialIfBound?_slotG (name := Str.ofString "__repr__") (T := "tuple") ⟨_, e1, e2⟩ F.slot_tuple_repr ?_)
  refine call_tuple_reprK (A := X.A) e1 e2 e3 hn (by simpa using al) (g := []) hg (fun b _ => Clear.nil b) (by omega) (fun _ _ e => e) (fun h' u tk kp => ?_) hz
  exact wpAny_bind (wpAny_isInstance (T := "str") (b := true) rfl isSubtype_str_str (wpAny_pure (fin h' u tk kp)))
end
end Own

set_option Elab.async false
set_option linter.all false
set_option maxRecDepth 100000
set_option maxHeartbeats 4000000
namespace Own
open PySem L2 Lay PySem.Spec PyProof.Rows ClX
/-! ### x in t, t a tuple of data of any depth -/
def rInT (K : PySem.W.Frag) : R2 := fun x y H Q => ∃ d ds, Dp K H x d ∧ Dp K H y (.tuple ds) ∧ SeqAt.shaped d = true ∧ SeqAt.shaped (.tuple ds) = true ∧ Q (.bl (ds.any fun z => PyData.eqv z d)) H
theorem op_inT {X : Cx} (hu : X.A.units + 66 < cLine) : OpR X (compareOp .In) (rInT X.K) := by
  intro pins s σ H x y v u Q I rx ry h
  obtain ⟨d, ds, hd, he, sd, se, q⟩ := h
  obtain ⟨as, r1⟩ := Dp.reads I d x v hd rx
  obtain ⟨bs, r2⟩ := Dp.reads I (.tuple ds) y u he ry
  have l1 := SeqAt.canLay_of_shaped se
  exact SeqAt.in_tuple_reads r2 r1 l1 (SeqAt.canLay_of_shaped sd) (by
    have z : decide (d.depth ≤ 64) = true := (Bool.and_eq_true_iff.mp sd).2
    have := of_decide_eq_true z
    omega) ⟨.bl _, H, I, rfl, q⟩
/-! ### entries as data -/
def eD (e : Ent) : PyData := .tuple [.int e.1, .int e.2.1, .str e.2.2]
/-- a name whose text can be laid -/
def NmOk (e : Ent) : Prop := PyData.strOk e.2.2 = true
theorem eD_lay {e : Ent} (h : NmOk e) : (eD e).canLay0 = true := by
  have h : PyData.strOk e.2.2 = true := h
  simp [eD, PyData.canLay0, PyData.canLayAll0, h]
theorem eD_dep (e : Ent) : (eD e).depth ≤ 1 := by simp [eD, PyData.depth, PyData.depthAll]
theorem eD_sh {e : Ent} (n : NmOk e) : SeqAt.shaped (eD e) = true := by
  have h := eD_dep e
  show ((eD e).canLay0 && decide ((eD e).depth ≤ 64)) = true
  rw [eD_lay n, decide_eq_true (by omega)]; rfl
theorem eDs_lay : ∀ es : List Ent, (∀ e ∈ es, NmOk e) → PyData.canLayAll0 (es.map eD) = true
  | [], _ => by simp [PyData.canLayAll0]
  | e :: es, h => by simp [PyData.canLayAll0, eD_lay (h e (List.mem_cons_self ..)), eDs_lay es fun f hf => h f (List.mem_cons_of_mem _ hf)]
theorem eDs_dep : ∀ es : List Ent, PyData.depthAll (es.map eD) ≤ 1
  | [] => by simp [PyData.depthAll]
  | e :: es => by
    have h1 := eDs_dep es
    have h2 := eD_dep e
    simp only [List.map_cons, PyData.depthAll]
    omega
theorem eDs_sh {es : List Ent} (n : ∀ e ∈ es, NmOk e) : SeqAt.shaped (.tuple (es.map eD)) = true := by
  have h := eDs_dep es
  show (PyData.canLay0 (.tuple (es.map eD)) && decide (PyData.depth (.tuple (es.map eD)) ≤ 64)) = true
  rw [Bool.and_eq_true]
  exact ⟨by simp only [PyData.canLay0]; exact eDs_lay es n, decide_eq_true (by simp only [PyData.depth]; omega)⟩
theorem eDs_shL {es : List Ent} (n : ∀ e ∈ es, NmOk e) : SeqAt.shaped (.list (es.map eD)) = true := by
  have h := eDs_dep es
  show (PyData.canLay0 (.list (es.map eD)) && decide (PyData.depth (.list (es.map eD)) ≤ 64)) = true
  rw [Bool.and_eq_true]
  exact ⟨by simp only [PyData.canLay0]; exact eDs_lay es n, decide_eq_true (by simp only [PyData.depth]; omega)⟩
theorem eD_eqv (e f : Ent) : PyData.eqv (eD e) (eD f) = decide (e = f) := by
  obtain ⟨a, b, c⟩ := e
  obtain ⟨a', b', c'⟩ := f
  have z : PyData.eqv (eD (a, b, c)) (eD (a', b', c')) = ((a == a') && ((b == b') && ((c == c') && true))) := by simp only [eD, PyData.eqv, PyData.eqvAll]
  rw [z]
  by_cases h : ((a, b, c) : Ent) = (a', b', c')
  · cases h; simp
  · rw [decide_eq_false h, Bool.eq_false_iff]
    intro q
    apply h
    simp at q
    obtain ⟨q1, q2, q3⟩ := q
    rw [q1, q2, q3]
theorem any_eD (es : List Ent) (e : Ent) : ((es.map eD).any fun z => PyData.eqv z (eD e)) = decide (e ∈ es) := by
  induction es with
  | nil => rfl
  | cons f es ih =>
    rw [List.map_cons, List.any_cons, ih, eD_eqv]
    by_cases h : f = e
    · subst h; simp
    · have h' : ¬ e = f := fun z => h z.symm
      simp [h, h']
theorem eqv_eDs (es fs : List Ent) : PyData.eqvAll (es.map eD) (fs.map eD) = decide (es = fs) := by
  induction es generalizing fs with
  | nil => cases fs <;> simp [PyData.eqvAll]
  | cons e es ih =>
    cases fs with
    | nil => simp [PyData.eqvAll]
    | cons f fs =>
      rw [List.map_cons, List.map_cons, PyData.eqvAll, eD_eqv, ih]
      by_cases h : e = f <;> by_cases g : es = fs <;> simp [h, g]
theorem eqvT (es fs : List Ent) : PyData.eqv (.tuple (es.map eD)) (.tuple (fs.map eD)) = decide (es = fs) := by rw [PyData.eqv]; exact eqv_eDs es fs
theorem eqvL (es fs : List Ent) : PyData.eqv (.list (es.map eD)) (.list (fs.map eD)) = decide (es = fs) := by rw [PyData.eqv]; exact eqv_eDs es fs
section
variable {K : PySem.W.Frag} {H : Hp} {x : V} {e : Ent} {xs : List V} {es : List Ent}
theorem EntT.dp (h : EntT H x e) : Dp K H x (eD e) := by
  obtain ⟨t, rfl, h⟩ := h
  exact .tup (SqT.of h) (.cons (.int _) (.cons (.int _) (.cons (.str _) .nil)))
theorem EL.dp (h : EL H xs es) : DpAll K H xs (es.map eD) := by
  induction h with
  | nil => exact .nil
  | cons h _ ih => exact .cons h.dp ih
end
/-! ### enumerate(t), t a tuple -/
def IteT (K : PySem.W.Frag) (a : Addr) : It :=
  ⟨fun i H => ∃ (xs : List V) (x : V), SqT K H a xs ∧ xs[i]? = some x, fun i H v H' => ∃ T x, v = .ref T ∧ H T = none ∧ H' = upd H T (.tup [.int (i : Nat), x]) ∧ ∀ xs, SqT K H a xs → xs[i]? = some x, fun i H => ∃ xs : List V, SqT K H a xs ∧ xs.length = i⟩
theorem walk_enumT {K : PySem.W.Frag} {a : Addr} {xs : List V} : Walk (IteT K a) xs.length (fun H => SqT K H a xs) (YPair (fun i => some (.int (i : Nat))) (fun i => xs[i]?)) := by
  refine ⟨fun i _ hi q => ⟨xs, xs[i], q, by simp [hi]⟩, fun _ q => ⟨xs, q, rfl⟩, fun i H v H' _ q y => ?_⟩
  obtain ⟨T, x, h1, h2, h3, h4⟩ := y
  exact ⟨T, .int (i : Nat), x, h1, h2, h3, rfl, h4 xs q⟩
end Own

set_option Elab.async false
set_option linter.all false
set_option maxRecDepth 100000
set_option maxHeartbeats 4000000
namespace Own
open PySem L2 Lay PySem.Spec PyProof.Rows ClX
/-! ### enumerate(t) -/
theorem new_enum1 {v : Value} {o : Obj} {G : Heap → Prop} (B : Begins v o G) :
    Meets (Builtin.«enumerate.__new__» ⟨[.type "enumerate", v], []⟩) (fun _ R s => G s.heap ∧
      R (.ok (.ret (.ref (s.heap.push o).objs.size))) { s with heap := (s.heap.push o).push { cls := .type "enumerate", data := .fields #[.none, .bool false, .ref s.heap.objs.size, rawInt 0, .none, .none] } }) :=
  .of_wp fun prog w A R s h => by
    obtain ⟨hp, g, d, tk, os⟩ := s
    obtain ⟨h1, h⟩ := h
    have hsub := sub_enumerate
    have it : ∀ {A' : Around} {E : Value → Shared → Prop} {Q : Value → Shared → Prop}, Q (.ref hp.objs.size) ⟨hp.push o, g, d, tk, os⟩ → wpAny (model prog w) A' (pyIter v) Q E ⟨hp, g, d, tk, os⟩ := fun q => B.iter prog w _ _ ⟨hp, g, d, tk, os⟩ _ h1 q
    wp_walk using it
    refine wpAny_stack_any fun st => wpAny_pure ?_
    split
    · rename_i c _ _ _ _ _
      cases (c == Value.type "enumerate") <;> (wp_walk using it; exact ⟨_, rfl, h⟩)
    · wp_walk using it
      exact ⟨_, rfl, h⟩
theorem call_enum1 {prog : Program} {w : World} {A : Around} {E : Value → Shared → Prop} {s : Shared} {v : Value} {o : Obj} {G : Heap → Prop} {Q : Value → Shared → Prop} (B : Begins v o G) (g : G s.heap)
    (h : ∀ h', IsEnum h' (s.heap.objs.size + 1) s.heap.objs.size 0 .none → h'.get? s.heap.objs.size = some o → (∀ b u, s.heap.get? b = some u → h'.get? b = some u) → Q (.ref (s.heap.objs.size + 1)) { s with heap := h' }) :
    wpAny (model prog w) A (call (.type "enumerate") [v]) Q E s := by
  refine callType_new F.called_enumerate (by decide) (F.typeCall_enumerate_1 _) (F.newCall_enumerate_1 _) (fun obj => F.args_object_init_2 obj _) F.entry_enumerate_new (new_enum1 B) ⟨g, ?_⟩
  have sz : (s.heap.push o).objs.size = s.heap.objs.size + 1 := Heap.size_push ..
  have e : IsEnum ((s.heap.push o).push { cls := .type "enumerate", data := .fields #[.none, .bool false, .ref s.heap.objs.size, rawInt 0, .none, .none] }) (s.heap.objs.size + 1) s.heap.objs.size 0 .none := by
    rw [← sz]
    exact Heap.get?_push_size _ rfl
  show _ ∧ _
  rw [sz]
  exact ⟨⟨_, e, rfl⟩, h _ e (Heap.get?_push_of_some _ (Heap.get?_push_size _ B.free)) fun b u q => Heap.get?_push_of_some _ (Heap.get?_push_of_some _ q)⟩
theorem turn_enumT {P : Program} {w : World} {K : PySem.W.Frag} {elts : List Expr} {kk : Nat} {tpos : Pos} (a e it : Addr) :
    Turn P w K (.Tuple elts kk tpos) (IteT K a) [e, it] e (fun i h => (∃ old, IsEnum h e it ((i : Nat) : Int) old) ∧ h.IsTupleIter it a i ∧ e ≠ it) where
  mem := by simp
  obj := fun i h st b hb => by
    obtain ⟨⟨old, he⟩, ⟨o, ho, hc, hd⟩, _⟩ := st
    rcases List.mem_cons.mp hb with z | z
    · subst z; exact ⟨_, he, fun v q => nomatch q⟩
    · obtain rfl := List.mem_singleton.mp z
      exact ⟨o, ho, fun v q => by rw [hd] at q; cases q⟩
  keep := fun i h h' st k => by
    obtain ⟨⟨old, he⟩, hi, ne⟩ := st
    exact ⟨⟨old, k e (by simp) _ he⟩, hi.at fun o q => k it (by simp) o q, ne⟩
  item := by
    intro X hP hw hK hc i pins s σ H E I hf st hg
    subst hP hw hK
    obtain ⟨⟨old, he⟩, hit, ne⟩ := st
    obtain ⟨xs, x, hq, hx⟩ := hg
    obtain ⟨its, rv, p, hz⟩ := I.tuple hq
    obtain ⟨u, hu, ru⟩ := rv.get hx
    have hel : e < s.heap.objs.size := Heap.lt_size he
    have hil : it < s.heap.objs.size := by obtain ⟨_, q, _⟩ := hit; exact Heap.lt_size q
    have eL : e ≠ a := fun z => by
      obtain ⟨o, ho, hcl, _⟩ := p
      subst z
      rw [show s.heap.get? e = some _ from he] at ho
      cases ho
      exact absurd (Value.type.inj hcl) (by decide)
    have iL : a ≠ it := fun z => by
      obtain ⟨o, ho, hcl, _⟩ := p
      obtain ⟨o', ho', hcl', _⟩ := hit
      subst z
      rw [ho] at ho'
      cases ho'
      rw [hcl] at hcl'
      exact absurd (Value.type.inj hcl') (by decide)
    have D := PySem.Draws.tuple (prog := X.prog) (w := X.w) (A := X.A.in1) (by simpa using I.ok.hd hc) it a iL its.toArray
    have hlt : i < its.toArray.size := by
      have := (List.getElem?_eq_some_iff.mp hu).1
      simpa using this
    refine wpAny_pyNext_enum_itemD D he ⟨hit, p⟩ hlt ne (by simp [ne, eL]) fun y h' tk py ho hst hT hsz hk => ?_
    have ey : y = u := by
      have q : its.toArray[i]? = some y := py
      rw [show its.toArray[i]? = its[i]? by simp, hu] at q
      exact (Option.some.inj q).symm
    subst ey
    refine ⟨_, rfl, wpAny_letOwnedTupleGo_enum (s := { s with heap := h', toks := tk + 1 }) ho fun h'' he' sb => ?_⟩
    have hT2 : h''.get? s.heap.objs.size = some { cls := .type "tuple", data := .seq #[.int i tk, y] } := (sb.2 _ (Nat.ne_of_gt hel)).trans hT
    have new : ObjOk X.prog X.w (upd H s.heap.objs.size (.tup [.int (i : Nat), x])) h'' s.heap.objs.size (.tup [.int (i : Nat), x]) :=
      ⟨by show 2 ≤ sizeLine; decide, [.int i tk, y], .cons ⟨_, rfl⟩ (.cons ru .nil), ⟨_, hT2, rfl, _, rfl⟩⟩
    have I1 : Inv X pins σ (upd H s.heap.objs.size (.tup [.int (i : Nat), x])) { s with heap := h'', toks := tk + 1 } :=
      I.turnedNew (ch := [e, it]) (fun b ob hb q => (sb.2 b (fun z => hb (by simp [z]))).trans (hk b ob (fun z => hb (by simp [z])) (fun z => hb (by simp [z])) q)) hf (Nat.le_refl _) new
    refine ⟨.ref s.heap.objs.size, _, I1, rfl, ⟨_, x, rfl, I.hok.fresh (Nat.le_refl _), rfl, fun ys hy => ?_⟩, ⟨⟨y, ?_⟩, hst.1.at fun o q => (sb.2 it (Ne.symm ne)).trans q, ne⟩, fun b hb => ?_⟩
    · rw [I.tuple_inj hy hq]; exact hx
    · have e1 : ((i + 1 : Nat) : Int) = (i : Int) + 1 := by omega
      rw [e1]; exact he'
    · have hb' : b < s.heap.objs.size := by
        rcases List.mem_cons.mp hb with z | z
        · rw [z]; exact hel
        · rw [List.mem_singleton.mp z]; exact hil
      rw [upd_ne (Nat.ne_of_lt hb')]
      exact (hf b hb).1
  done := by
    intro X hP hw hK hc i pins s σ H E I hf st hg
    subst hP hw hK
    obtain ⟨⟨old, he⟩, hit, ne⟩ := st
    obtain ⟨xs, hq, hx⟩ := hg
    obtain ⟨its, rv, p, hz⟩ := I.tuple hq
    obtain ⟨f0, f1, f2, f3, f4, f5⟩ := hf it (by simp)
    have iL : a ≠ it := fun z => by
      obtain ⟨o, ho, hcl, _⟩ := p
      obtain ⟨o', ho', hcl', _⟩ := hit
      subst z
      rw [ho] at ho'
      cases ho'
      rw [hcl] at hcl'
      exact absurd (Value.type.inj hcl') (by decide)
    have ei : its.toArray.size = i := by rw [List.size_toArray, ← rv.length]; exact hx
    subst ei
    have D := PySem.Draws.tuple (prog := X.prog) (w := X.w) (A := X.A.in1) (by simpa using I.ok.hd hc) it a iL its.toArray
    exact wpAny_pyNext_enum_endD D he ⟨hit, p⟩ fun h' eb => ⟨rfl, I.turned (t' := s.toks) (fun b o hb q => eb b o hb q) f0 f1 f3 f4 f5⟩
  self := fun A i s Q E st h => by
    obtain ⟨⟨_, he⟩, _⟩ := st
    exact wpAny_pyIter_enum he h
def iEnumT (K : PySem.W.Frag) (ta : TA) : TI := fun σ H R => ta σ H fun vs H1 => ∃ a xs, vs = [.ref a] ∧ SqT K H1 a xs ∧ R (IteT K a) H1
theorem pi_enumT {X : Cx} {e : Expr} {ta : TA} {p pos tpos : Pos} {elts : List Expr} {kk : Nat} (hg : Gl X "enumerate") (hm : X.mg "enumerate" = none) (ha : PA X [e] ta) (hs : starEach [e] X.env = [(false, eval e X.env)] := by rfl) :
    PI X (.Tuple elts kk tpos) (.Call (.Name "enumerate" p) [e] [] pos) (iEnumT X.K ta) := by
  refine ⟨fun pins s σ H R I h => ?_⟩
  refine Call_ (ld_blt I hg hm boot_enumerate (PyProof.Rows.callWith_type1 (thn (ha.run pos pins s σ H _ I h) fun us s1 ⟨vs, H1, I1, r1, a, xs, ex, hq, q⟩ => ?_) hs rfl))
  subst ex
  obtain ⟨u, rfl, ru⟩ := vals1 r1
  obtain rfl : u = Value.ref a := ru
  obtain ⟨its, rv, p', hz⟩ := I1.tuple hq
  refine call_enum1 (begins_tuple a its.toArray) p' fun h' he hit hk => wpAny_pyIter_enum he ?_
  have I2 : Inv X pins σ H1 { s1 with heap := h' } := I1.kept (t' := s1.toks) hk
  refine ⟨s1.heap.objs.size + 1, [s1.heap.objs.size + 1, s1.heap.objs.size], _, _, H1, rfl, I2, turn_enumT a (s1.heap.objs.size + 1) s1.heap.objs.size, ⟨⟨.none, he⟩, ⟨_, hit, rfl, rfl⟩, Nat.succ_ne_self _⟩, fun b hb => ?_, q⟩
  have hle : s1.heap.objs.size ≤ b := by
    rcases List.mem_cons.mp hb with z | z
    · rw [z]; exact Nat.le_succ _
    · rw [List.mem_singleton.mp z]; exact Nat.le_refl _
  exact I1.fpOk hle (I1.hok.fresh hle)
end Own

set_option Elab.async false
set_option linter.all false
set_option maxRecDepth 100000
set_option maxHeartbeats 4000000
namespace Own
open PySem L2 Lay SrtO
theorem cut_from {xs : List V} {i : Nat} (h : i ≤ xs.length) : cutV xs (some (i : Int)) none = xs.drop i := by
  unfold cutV
  rw [HT.sIx_nat, HT.sIx_none, Nat.min_eq_left h]
  exact List.take_of_length_le (by rw [List.length_drop]; omega)
theorem cut_to {xs : List V} {i : Nat} (h : i ≤ xs.length) : cutV xs none (some (i : Int)) = xs.take i := by
  unfold cutV
  rw [HT.sIx_nat, HT.sIx_none, Nat.min_eq_left h]
  simp
section
variable {α : Type} {lt : α → α → Bool} {xs ys out : List α} {i j : Nat} {x y : α}
/-- what two sorted lists have put out -/
structure MI (lt : α → α → Bool) (xs ys : List α) (i j : Nat) (out : List α) : Prop where
  perm : out.Perm (xs.take i ++ ys.take j)
  sd : Sd lt out
  ax : ∀ z ∈ out, ∀ x ∈ xs.drop i, lt x z = false
  ay : ∀ z ∈ out, ∀ y ∈ ys.drop j, lt y z = false
theorem MI.start : MI lt xs ys 0 0 [] := ⟨by simp, List.Pairwise.nil, by simp, by simp⟩
theorem sd_drop (h : Sd lt xs) (e : xs[i]? = some x) : ∀ z ∈ xs.drop (i + 1), lt z x = false := by
  have hd : xs.drop i = x :: xs.drop (i + 1) := by
    have hi := (List.getElem?_eq_some_iff.mp e).1
    rw [List.drop_eq_getElem_cons hi]
    congr 1
    exact (List.getElem?_eq_some_iff.mp e).2
  have s : Sd lt (xs.drop i) := List.Pairwise.sublist (List.drop_sublist _ _) h
  rw [hd] at s
  exact (List.pairwise_cons.mp s).1
theorem drop_at (e : xs[i]? = some x) : xs.drop i = x :: xs.drop (i + 1) := by
  have hi := (List.getElem?_eq_some_iff.mp e).1
  rw [List.drop_eq_getElem_cons hi]
  congr 1
  exact (List.getElem?_eq_some_iff.mp e).2
theorem take_at (e : xs[i]? = some x) : xs.take (i + 1) = xs.take i ++ [x] := by rw [List.take_add_one, e]; rfl
theorem MI.b (O : Swo lt) (m : MI lt xs ys i j out) (hx : Sd lt xs) (hy : Sd lt ys) (ex : xs[i]? = some x) (ey : ys[j]? = some y) (h : lt y x = true) : MI lt xs ys i (j + 1) (out ++ [y]) := by
  have hd := drop_at ey
  refine ⟨?_, ?_, fun z hz x' hx' => ?_, fun z hz y' hy' => ?_⟩
  · rw [take_at ey, ← List.append_assoc]
    exact m.perm.append_right _
  · refine List.pairwise_append.mpr ⟨m.sd, List.pairwise_singleton _ _, fun a ha b hb => ?_⟩
    obtain rfl := List.mem_singleton.mp hb
    exact m.ay a ha b (by rw [hd]; exact List.mem_cons_self ..)
  · rcases List.mem_append.mp hz with q | q
    · exact m.ax z q x' hx'
    · obtain rfl := List.mem_singleton.mp q
      rw [drop_at ex] at hx'
      rcases List.mem_cons.mp hx' with r | r
      · subst r; exact O.asym _ _ h
      · exact O.tr z x x' (O.asym _ _ h) (sd_drop hx ex x' r)
  · rcases List.mem_append.mp hz with q | q
    · exact m.ay z q y' (by rw [hd]; exact List.mem_cons_of_mem _ hy')
    · obtain rfl := List.mem_singleton.mp q
      exact sd_drop hy ey y' hy'
theorem MI.a (O : Swo lt) (m : MI lt xs ys i j out) (hx : Sd lt xs) (hy : Sd lt ys) (ex : xs[i]? = some x) (ey : ys[j]? = some y) (h : lt y x = false) : MI lt xs ys (i + 1) j (out ++ [x]) := by
  have hd := drop_at ex
  refine ⟨?_, ?_, fun z hz x' hx' => ?_, fun z hz y' hy' => ?_⟩
  · rw [take_at ex]
    refine (m.perm.append_right _).trans ?_
    rw [List.append_assoc, List.append_assoc]
    exact List.Perm.append_left _ List.perm_append_comm
  · refine List.pairwise_append.mpr ⟨m.sd, List.pairwise_singleton _ _, fun a ha b hb => ?_⟩
    obtain rfl := List.mem_singleton.mp hb
    exact m.ax a ha b (by rw [hd]; exact List.mem_cons_self ..)
  · rcases List.mem_append.mp hz with q | q
    · exact m.ax z q x' (by rw [hd]; exact List.mem_cons_of_mem _ hx')
    · obtain rfl := List.mem_singleton.mp q
      exact sd_drop hx ex x' hx'
  · rcases List.mem_append.mp hz with q | q
    · exact m.ay z q y' hy'
    · obtain rfl := List.mem_singleton.mp q
      rw [drop_at ey] at hy'
      rcases List.mem_cons.mp hy' with r | r
      · subst r; exact h
      · exact O.tr z y y' h (sd_drop hy ey y' r)
theorem MI.fin (m : MI lt xs ys i j out) (hx : Sd lt xs) (hy : Sd lt ys) (h : xs.length ≤ i ∨ ys.length ≤ j) : (out ++ xs.drop i ++ ys.drop j).Perm (xs ++ ys) ∧ Sd lt (out ++ xs.drop i ++ ys.drop j) := by
  constructor
  · refine ((m.perm.append_right _).append_right _).trans ?_
    have e : ((xs.take i ++ ys.take j) ++ xs.drop i) ++ ys.drop j = xs.take i ++ ((ys.take j ++ xs.drop i) ++ ys.drop j) := by simp
    rw [e]
    refine (List.Perm.append_left _ (List.perm_append_comm.append_right _)).trans ?_
    have e2 : xs.take i ++ ((xs.drop i ++ ys.take j) ++ ys.drop j) = xs ++ ys := by
      rw [List.append_assoc, ← List.append_assoc, List.take_append_drop, List.take_append_drop]
    rw [e2]
  · have s1 : Sd lt (xs.drop i) := List.Pairwise.sublist (List.drop_sublist _ _) hx
    have s2 : Sd lt (ys.drop j) := List.Pairwise.sublist (List.drop_sublist _ _) hy
    rcases h with h | h
    · rw [List.drop_of_length_le h, List.append_nil]
      exact List.pairwise_append.mpr ⟨m.sd, s2, m.ay⟩
    · rw [List.drop_of_length_le h, List.append_nil]
      exact List.pairwise_append.mpr ⟨m.sd, s1, m.ax⟩
end
end Own

set_option Elab.async false
set_option linter.all false
set_option maxRecDepth 100000
set_option maxHeartbeats 4000000
namespace Own
open PySem L2 Lay
theorem pg_tupK {X : Cx} {es : List Expr} {k : Nat} {t : TGs} {n : Nat} {K : PySem.W.Frag} {pos : Pos} (hK : X.K = K) (hc : X.calm = true) (h : PGs X es t)
    (hn : (assignEach es X.env).length = n := by rfl) (hst : (assignEach es X.env).findIdx? (·.1) = none := by rfl) : PG X (.Tuple es k pos) (gTup K n t) := hK ▸ pg_tup hc h hn hst
/-- a comprehension whose elements stand on what it made, told by their places -/
theorem lc_depI {J : It} {n : Nat} {G : Hp → Prop} {Y : Nat → Hp → V → Hp → Prop} (wk : Walk J n G Y) {g : TG} {tt : TT} {te : TE} {vs : List Nat} {σ : L2.St} {H1 : Hp} {D : Addr} {Qd : Hp → Prop} (nD : H1 D = none) (hn : n < 100000)
    (hG : ∀ H, L2.Same H1 H → G H) (R : Nat → Hp → V → Prop) (rs : ∀ i H H' v, L2.Same H H' → R i H v → R i H' v) (rm : ∀ i H xs ys v, H D = some (.lst xs) → R i H v → R i (upd H D (.lst ys)) v)
    (hs : ∀ i x H H' (Kn : V → Hp → Prop) (Z : Hp → Prop), i < n → L2.Same H1 H → (∃ xs, H D = some (.lst xs)) → Y i H x H' → (∀ y H4, L2.Same H H4 → R i H4 y → Kn y H4) →
      g x (wipe σ vs) H' fun σ2 H2 => wipe σ2 vs = wipe σ vs ∧ tt σ2 H2 fun b H3 => if b = true then te σ2 H3 Kn else Z H3)
    (hd : ∀ H xs, L2.Same H1 H → H D = some (.lst xs) → xs.length = n → (∀ i y, xs[i]? = some y → R i H y) → Qd H) :
    ∃ W : Nat → Nat → Hp → Prop, (∃ m, W 0 m (upd H1 D (.lst []))) ∧ ∀ i m H, W i m H →
      (J.stop i H ∧ Qd H) ∨ (J.go i H ∧ ∃ Nx : Hp → Prop, (∀ H', Nx H' → ∃ m', m' < m ∧ W (i + 1) m' H') ∧ ∀ x H', J.yld i H x H' → g x (wipe σ vs) H' fun σ2 H2 => wipe σ2 vs = wipe σ vs ∧ tt σ2 H2 fun b H3 =>
        if b = true then te σ2 H3 fun y H4 => ∃ acc, H4 D = some (.lst acc) ∧ acc.length < sizeLine ∧ Nx (upd H4 D (.lst (acc ++ [y]))) else Nx H3) := by
  refine lc_it wk (fun i H => L2.Same H1 H ∧ ∃ xs, H D = some (.lst xs) ∧ xs.length = i ∧ ∀ j y, xs[j]? = some y → R j H y) ?_ ?_ ?_ ?_
  · exact ⟨Same.new nD, [], upd_same, rfl, fun j y e => by simp at e⟩
  · exact fun i H _ h => hG H h.1
  · intro i x H H' hi ⟨sm, xs, hD, hl, hr⟩ y
    refine hs i x H H' _ _ hi sm ⟨xs, hD⟩ y fun v H4 h4 hv => ⟨xs, h4 _ _ hD, by rw [hl]; exact Nat.lt_trans (Nat.lt_trans hi hn) (by decide), ?_⟩
    refine ⟨Same.mut (sm.trans h4) nD, xs ++ [v], upd_same, by simp [hl], fun j y e => ?_⟩
    by_cases hj : j < xs.length
    · rw [List.getElem?_append_left hj] at e
      exact rm j _ xs _ _ (h4 _ _ hD) (rs j _ _ _ h4 (hr j y e))
    · rw [List.getElem?_append_right (by omega)] at e
      have hj2 : j - xs.length = 0 := by
        cases hk : j - xs.length with
        | zero => rfl
        | succ m => rw [hk] at e; simp at e
      rw [hj2] at e
      simp at e
      subst e
      have : j = i := by omega
      subst this
      exact rm j _ xs _ _ (h4 _ _ hD) hv
  · intro H ⟨sm, xs, hD, hl, hr⟩
    exact hd H xs sm hD hl hr
theorem EntT.mut {H : Hp} {D : Addr} {xs ys : List V} {x : V} {e : Ent} (hD : H D = some (.lst xs)) (h : EntT H x e) : EntT (upd H D (.lst ys)) x e := by
  obtain ⟨t, rfl, h⟩ := h
  refine ⟨t, rfl, ?_⟩
  rw [upd_ne]
  · exact h
  · intro z
    subst z
    rw [hD] at h
    cases h
theorem EL.mut {H : Hp} {D : Addr} {xs ys zs : List V} {es : List Ent} (hD : H D = some (.lst xs)) (h : EL H zs es) : EL (upd H D (.lst ys)) zs es := by
  induction h with
  | nil => exact .nil
  | cons h _ ih => exact .cons (h.mut hD) ih
/-- a comprehension over entries that makes entries -/
theorem el_of {H : Hp} {xs : List V} {es : List Ent} {f : Ent → Ent} (hl : xs.length = es.length) (h : ∀ (i : Nat) (y : V), xs[i]? = some y → ∃ e, es[i]? = some e ∧ EntT H y (f e)) : EL H xs (es.map f) := by
  refine .of_at (by rw [List.length_map, hl]) fun i x e hx he => ?_
  obtain ⟨e', h1, h2⟩ := h i x hx
  rw [List.getElem?_map, h1] at he
  cases he
  exact h2
/-- a comprehension over entries that makes plain values -/
theorem vs_of {xs : List V} {es : List Ent} {f : Ent → V} (hl : xs.length = es.length) (h : ∀ (i : Nat) (y : V), xs[i]? = some y → ∃ e, es[i]? = some e ∧ y = f e) : xs = es.map f := by
  apply List.ext_getElem?
  intro i
  by_cases hi : i < xs.length
  · obtain ⟨e, h1, h2⟩ := h i _ (List.getElem?_eq_getElem hi)
    rw [List.getElem?_map, h1, List.getElem?_eq_getElem hi, h2]; rfl
  · rw [List.getElem?_eq_none (by omega), List.getElem?_eq_none (by simp; omega)]
theorem sd_short {α : Type} {lt : α → α → Bool} : ∀ {xs : List α}, xs.length ≤ 1 → Sd lt xs
  | [], _ => List.Pairwise.nil
  | [x], _ => List.pairwise_singleton _ _
  | _ :: _ :: l, h => by simp at h
theorem Swo.on {α β : Type} {lt : α → α → Bool} (T : Tot lt) (k : β → α) : SrtO.Swo fun x y => lt (k x) (k y) := ⟨fun x y => T.swo.asym _ _, fun x y z => T.swo.tr _ _ _⟩
end Own

set_option Elab.async false
set_option linter.all false
set_option maxRecDepth 100000
set_option maxHeartbeats 4000000
/-- addresses: the class, a static method's def, a property's getter -/
def kc (K : PySem.W.Frag) : PySem.Addr := He.ga K "Kind"
namespace Kd
open PySem
def rc (K : PySem.W.Frag) (m kind : String) : Addr := match PySem.W.recIn K (He.ma K (kc K) m) kind with
  | some (.ref g :: _) => g
  | _ => 0
def st (K : PySem.W.Frag) (m : String) : Addr := rc K m "staticmethod"
def pr (K : PySem.W.Frag) (m : String) : Addr := rc K m "property"
end Kd
namespace K11
open PySem L2 Lay Own
def top (i : Nat) : Stmt := PySem.Challenge.pw_twoeach_k11_kinds_told.main.body.getD i (.Pass ⟨0, 0, 0, 0⟩)
def inClass (s : Stmt) (j : Nat) : Stmt := match s with
  | .ClassDef _ _ _ b _ _ _ _ _ _ _ => b.getD j (.Pass ⟨0, 0, 0, 0⟩)
  | _ => .Pass ⟨0, 0, 0, 0⟩
abbrev s_is_integer : Stmt := top 3
theorem sc_is_integer : FnScope ["value"] ["value"] (defScope s_is_integer) := ⟨rfl, rfl, rfl, by decide +kernel, rfl, by decide +kernel, by decide +kernel⟩
abbrev s_is_name : Stmt := top 4
theorem sc_is_name : FnScope ["value"] ["value"] (defScope s_is_name) := ⟨rfl, rfl, rfl, by decide +kernel, rfl, by decide +kernel, by decide +kernel⟩
abbrev s_is_list : Stmt := top 5
theorem sc_is_list : FnScope ["value"] ["value"] (defScope s_is_list) := ⟨rfl, rfl, rfl, by decide +kernel, rfl, by decide +kernel, by decide +kernel⟩
abbrev s_in_order : Stmt := top 12
theorem sc_in_order : FnScope ["rows", "half"] ["rows"] (defScope s_in_order) := ⟨rfl, rfl, rfl, by decide +kernel, rfl, by decide +kernel, by decide +kernel⟩
abbrev s_merged : Stmt := top 13
theorem sc_merged : FnScope ["one", "other", "out", "at", "beside"] ["one", "other"] (defScope s_merged) := ⟨rfl, rfl, rfl, by decide +kernel, rfl, by decide +kernel, by decide +kernel⟩
abbrev s_is_distance : Stmt := top 17
theorem sc_is_distance : FnScope ["value"] ["value"] (defScope s_is_distance) := ⟨rfl, rfl, rfl, by decide +kernel, rfl, by decide +kernel, by decide +kernel⟩
abbrev s_is_entry : Stmt := top 18
theorem sc_is_entry : FnScope ["value", "across", "up", "name"] ["value"] (defScope s_is_entry) := ⟨rfl, rfl, rfl, by decide +kernel, rfl, by decide +kernel, by decide +kernel⟩
abbrev s_check_entries : Stmt := top 19
theorem sc_check_entries : FnScope ["entries", "position", "entry"] ["entries"] (defScope s_check_entries) := ⟨rfl, rfl, rfl, by decide +kernel, rfl, by decide +kernel, by decide +kernel⟩
abbrev s_normed : Stmt := top 20
theorem sc_normed : FnScope ["entries", "low", "bottom", "entry", "across", "up", "name"] ["entries"] (defScope s_normed) := ⟨rfl, rfl, rfl, by decide +kernel, rfl, by decide +kernel, by decide +kernel⟩
abbrev s_reach_of : Stmt := top 21
theorem sc_reach_of : FnScope ["entries", "entry"] ["entries"] (defScope s_reach_of) := ⟨rfl, rfl, rfl, by decide +kernel, rfl, by decide +kernel, by decide +kernel⟩
abbrev s_check_reach : Stmt := top 22
theorem sc_check_reach : FnScope ["reach", "across", "up"] ["reach"] (defScope s_check_reach) := ⟨rfl, rfl, rfl, by decide +kernel, rfl, by decide +kernel, by decide +kernel⟩
abbrev s_l_pot : Stmt := top 28
theorem sc_l_pot : FnScope ["_law_script", "_law_k", "_law_cell"] ["_law_script", "_law_k"] (defScope s_l_pot) := ⟨rfl, rfl, rfl, by decide +kernel, rfl, by decide +kernel, by decide +kernel⟩
abbrev s_l_draw : Stmt := top 29
theorem sc_l_draw : FnScope ["_law_pot_here", "_law_many", "_law_digit"] ["_law_pot_here", "_law_many"] (defScope s_l_draw) := ⟨rfl, rfl, rfl, by decide +kernel, rfl, by decide +kernel, by decide +kernel⟩
abbrev s_l_among : Stmt := top 30
theorem sc_l_among : FnScope ["_law_pot_here", "_law_some"] ["_law_pot_here", "_law_some"] (defScope s_l_among) := ⟨rfl, rfl, rfl, by decide +kernel, rfl, by decide +kernel, by decide +kernel⟩
abbrev s_l_names : Stmt := top 31
theorem sc_l_names : FnScope ["_law_pot_here", "_law_many", "_law_letters", "_law_found", "_law_turn", "_law_far_here", "_law_word", "_law_fresh", "_law_sign", "_law_one"] ["_law_pot_here", "_law_many"] (defScope s_l_names) := ⟨rfl, rfl, rfl, by decide +kernel, rfl, by decide +kernel, by decide +kernel⟩
abbrev s_l_normed : Stmt := top 32
theorem sc_l_normed : FnScope ["_law_some", "_law_left", "_law_low", "_law_part"] ["_law_some"] (defScope s_l_normed) := ⟨rfl, rfl, rfl, by decide +kernel, rfl, by decide +kernel, by decide +kernel⟩
abbrev s_l_entries : Stmt := top 33
theorem sc_l_entries : FnScope ["_law_pot_here", "_law_tags", "_law_broad", "_law_high", "_law_free", "_law_across", "_law_up", "_law_found", "_law_turn", "_law_tag"] ["_law_pot_here", "_law_tags"] (defScope s_l_entries) := ⟨rfl, rfl, rfl, by decide +kernel, rfl, by decide +kernel, by decide +kernel⟩
abbrev s_l_mixed : Stmt := top 34
theorem sc_l_mixed : FnScope ["_law_pot_here", "_law_some", "_law_left", "_law_found", "_law_turn"] ["_law_pot_here", "_law_some"] (defScope s_l_mixed) := ⟨rfl, rfl, rfl, by decide +kernel, rfl, by decide +kernel, by decide +kernel⟩
abbrev s_l_passed : Stmt := top 35
theorem sc_l_passed : FnScope ["_law_pot_here", "_law_some", "_law_across", "_law_up", "_law_part"] ["_law_pot_here", "_law_some"] (defScope s_l_passed) := ⟨rfl, rfl, rfl, by decide +kernel, rfl, by decide +kernel, by decide +kernel⟩
abbrev s_l_kind : Stmt := top 36
theorem sc_l_kind : FnScope ["_law_some"] ["_law_some"] (defScope s_l_kind) := ⟨rfl, rfl, rfl, by decide +kernel, rfl, by decide +kernel, by decide +kernel⟩
abbrev s_l_far : Stmt := top 37
theorem sc_l_far : FnScope ["_law_some", "_law_part"] ["_law_some"] (defScope s_l_far) := ⟨rfl, rfl, rfl, by decide +kernel, rfl, by decide +kernel, by decide +kernel⟩
abbrev s_l_told_right : Stmt := top 38
theorem sc_l_told_right : FnScope ["_law_made", "_law_due", "_law_far_here", "_law_told", "_law_shown", "_law_part"] ["_law_made", "_law_due"] (defScope s_l_told_right) := ⟨rfl, rfl, rfl, by decide +kernel, rfl, by decide +kernel, by decide +kernel⟩
abbrev s_l_among_right : Stmt := top 39
theorem sc_l_among_right : FnScope ["_law_pot_here", "_law_made", "_law_due", "_law_near", "_law_part", "_law_some", "_law_thing"] ["_law_pot_here", "_law_made", "_law_due"] (defScope s_l_among_right) := ⟨rfl, rfl, rfl, by decide +kernel, rfl, by decide +kernel, by decide +kernel⟩
abbrev s_l_turned_right : Stmt := top 40
theorem sc_l_turned_right : FnScope ["_law_made", "_law_due", "_law_far_here", "_law_sides", "_law_over", "_law_back", "_law_part"] ["_law_made", "_law_due"] (defScope s_l_turned_right) := ⟨rfl, rfl, rfl, by decide +kernel, rfl, by decide +kernel, by decide +kernel⟩
abbrev s_l_right : Stmt := top 41
theorem sc_l_right : FnScope ["_law_pot_here", "_law_tags", "_law_due", "_law_mate", "_law_given", "_law_made", "_law_again", "_law_tupled", "_law_other", "_law_told", "_law_one", "_law_thing"] ["_law_pot_here"] (defScope s_l_right) := ⟨rfl, rfl, rfl, by decide +kernel, rfl, by decide +kernel, by decide +kernel⟩
abbrev s_law : Stmt := top 42
theorem sc_law : FnScope ["_law_script", "_law_k"] ["_law_script"] (defScope s_law) := ⟨rfl, rfl, rfl, by decide +kernel, rfl, by decide +kernel, by decide +kernel⟩
abbrev s_Kind_of : Stmt := inClass (top 26) 3
theorem sc_Kind_of : FnScope ["entries"] ["entries"] (defScope s_Kind_of) := ⟨rfl, rfl, rfl, by decide +kernel, rfl, by decide +kernel, by decide +kernel⟩
abbrev s_Kind_reach : Stmt := inClass (top 26) 4
theorem sc_Kind_reach : FnScope ["self"] ["self"] (defScope s_Kind_reach) := ⟨rfl, rfl, rfl, by decide +kernel, rfl, by decide +kernel, by decide +kernel⟩
abbrev s_Kind_is_flat : Stmt := inClass (top 26) 5
theorem sc_Kind_is_flat : FnScope ["self"] ["self"] (defScope s_Kind_is_flat) := ⟨rfl, rfl, rfl, by decide +kernel, rfl, by decide +kernel, by decide +kernel⟩
abbrev s_Kind_entries : Stmt := inClass (top 26) 6
theorem sc_Kind_entries : FnScope ["self"] ["self"] (defScope s_Kind_entries) := ⟨rfl, rfl, rfl, by decide +kernel, rfl, by decide +kernel, by decide +kernel⟩
abbrev s_Kind_names : Stmt := inClass (top 26) 7
theorem sc_Kind_names : FnScope ["self", "entry"] ["self"] (defScope s_Kind_names) := ⟨rfl, rfl, rfl, by decide +kernel, rfl, by decide +kernel, by decide +kernel⟩
abbrev s_Kind_mirrored : Stmt := inClass (top 26) 9
theorem sc_Kind_mirrored : FnScope ["self", "width", "across", "up", "name"] ["self"] (defScope s_Kind_mirrored) := ⟨rfl, rfl, rfl, by decide +kernel, rfl, by decide +kernel, by decide +kernel⟩
abbrev s_Kind_turned : Stmt := inClass (top 26) 10
theorem sc_Kind_turned : FnScope ["self", "across", "up", "name"] ["self"] (defScope s_Kind_turned) := ⟨rfl, rfl, rfl, by decide +kernel, rfl, by decide +kernel, by decide +kernel⟩
abbrev s_Kind___len : Stmt := inClass (top 26) 12
theorem sc_Kind___len : FnScope ["self"] ["self"] (defScope s_Kind___len) := ⟨rfl, rfl, rfl, by decide +kernel, rfl, by decide +kernel, by decide +kernel⟩
abbrev s_Kind___contains : Stmt := inClass (top 26) 13
theorem sc_Kind___contains : FnScope ["self", "x"] ["self", "x"] (defScope s_Kind___contains) := ⟨rfl, rfl, rfl, by decide +kernel, rfl, by decide +kernel, by decide +kernel⟩
abbrev s_Kind___eq : Stmt := inClass (top 26) 16
theorem sc_Kind___eq : FnScope ["self", "other"] ["self", "other"] (defScope s_Kind___eq) := ⟨rfl, rfl, rfl, by decide +kernel, rfl, by decide +kernel, by decide +kernel⟩
abbrev s_Kind___repr : Stmt := inClass (top 26) 17
theorem sc_Kind___repr : FnScope ["self"] ["self"] (defScope s_Kind___repr) := ⟨rfl, rfl, rfl, by decide +kernel, rfl, by decide +kernel, by decide +kernel⟩
abbrev s_Kind___init : Stmt := inClass (top 26) 2
theorem sc_Kind___init : FnScope ["self", "entries", "own", "reach"] ["self", "entries"] (defScope s_Kind___init) := ⟨rfl, rfl, rfl, by decide +kernel, rfl, by decide +kernel, by decide +kernel⟩
/-- a method of the class -/
def Ms (K : PySem.W.Frag) (m qual : Str) (s : Stmt) (f : Addr) (ps : List Str) : Prop := ∃ fd, Fun K m qual s f fd ∧ Binds K fd ps [] ∧ Kw1 fd ps
def Ty7 : List String := ["NoneType", "bool", "int", "str", "list", "tuple", "dict"]
structure Txt (K : PySem.W.Frag) (mg : Str → Option Value) : Prop where
  n_len : mg "len" = none
  n_int : mg "int" = none
  n_abs : mg "abs" = none
  n_max : mg "max" = none
  n_min : mg "min" = none
  n_divmod : mg "divmod" = none
  n_isinstance : mg "isinstance" = none
  n_bool : mg "bool" = none
  n_str : mg "str" = none
  n_repr : mg "repr" = none
  n_range : mg "range" = none
  n_all : mg "all" = none
  n_any : mg "any" = none
  n_tuple : mg "tuple" = none
  n_list : mg "list" = none
  n_sorted : mg "sorted" = none
  n_set : mg "set" = none
  n_enumerate : mg "enumerate" = none
  c_MOST_LETTERS : ∃ u, mg "MOST_LETTERS" = some u ∧ RelV (.int 8) u
  c_FARTHEST : ∃ u, mg "FARTHEST" = some u ∧ RelV (.int 20) u
  c_FEWEST_ENTRIES : ∃ u, mg "FEWEST_ENTRIES" = some u ∧ RelV (.int 2) u
  S_is_integer : Src K mg "is_integer" s_is_integer ["value"]
  S_is_name : Src K mg "is_name" s_is_name ["value"]
  S_is_list : Src K mg "is_list" s_is_list ["value"]
  S_in_order : Src K mg "in_order" s_in_order ["rows"]
  S_merged : Src K mg "merged" s_merged ["one", "other"]
  S_is_distance : Src K mg "is_distance" s_is_distance ["value"]
  S_is_entry : Src K mg "is_entry" s_is_entry ["value"]
  S_check_entries : Src K mg "check_entries" s_check_entries ["entries"]
  S_normed : Src K mg "normed" s_normed ["entries"]
  S_reach_of : Src K mg "reach_of" s_reach_of ["entries"]
  S_check_reach : Src K mg "check_reach" s_check_reach ["reach"]
  S_l_pot : Src K mg "_law_pot" s_l_pot ["_law_script", "_law_k"]
  S_l_draw : Src K mg "_law_draw" s_l_draw ["_law_pot_here", "_law_many"]
  S_l_among : Src K mg "_law_among" s_l_among ["_law_pot_here", "_law_some"]
  S_l_names : Src K mg "_law_names" s_l_names ["_law_pot_here", "_law_many"]
  S_l_normed : Src K mg "_law_normed" s_l_normed ["_law_some"]
  S_l_entries : Src K mg "_law_entries" s_l_entries ["_law_pot_here", "_law_tags"]
  S_l_mixed : Src K mg "_law_mixed" s_l_mixed ["_law_pot_here", "_law_some"]
  S_l_passed : Src K mg "_law_passed" s_l_passed ["_law_pot_here", "_law_some"]
  S_l_kind : Src K mg "_law_kind" s_l_kind ["_law_some"]
  S_l_far : Src K mg "_law_far" s_l_far ["_law_some"]
  S_l_told_right : Src K mg "_law_told_right" s_l_told_right ["_law_made", "_law_due"]
  S_l_among_right : Src K mg "_law_among_right" s_l_among_right ["_law_pot_here", "_law_made", "_law_due"]
  S_l_turned_right : Src K mg "_law_turned_right" s_l_turned_right ["_law_made", "_law_due"]
  S_l_right : Src K mg "_law_right" s_l_right ["_law_pot_here"]
  S_law : Src K mg "law" s_law ["_law_script"]
  g_Kind : mg "Kind" = some (.ref (kc K))
  cls : Cls K (kc K)
  maker : Mk K (kc K) (He.ma K (kc K) "__init__")
  cr : ∃ mc, ClX.CRead K (kc K) mc ∧ (∃ p, CSta K (kc K) mc "of" p (Kd.st K "of")) ∧ (∃ u, ClX.CVal K (kc K) mc "MOST_ENTRIES" (.int 6) u) ∧ (∃ u, ClX.CVal K (kc K) mc "MOST_REACH" (.int 3) u)
  m_entries : Meth K (kc K) "entries" (He.ma K (kc K) "entries")
  m_names : Meth K (kc K) "names" (He.ma K (kc K) "names")
  m_mirrored : Meth K (kc K) "mirrored" (He.ma K (kc K) "mirrored")
  m_turned : Meth K (kc K) "turned" (He.ma K (kc K) "turned")
  p_reach : ∃ p, PropOf K (kc K) "reach" p (Kd.pr K "reach")
  p_is_flat : ∃ p, PropOf K (kc K) "is_flat" p (Kd.pr K "is_flat")
  f___len__ : PySem.W.findIn K (.ref (kc K)) "__len__" = some (some (.ref (He.ma K (kc K) "__len__")))
  i___len__ : PySem.W.isFn K (.ref (He.ma K (kc K) "__len__")) = true
  f___contains__ : PySem.W.findIn K (.ref (kc K)) "__contains__" = some (some (.ref (He.ma K (kc K) "__contains__")))
  i___contains__ : PySem.W.isFn K (.ref (He.ma K (kc K) "__contains__")) = true
  f___eq__ : PySem.W.findIn K (.ref (kc K)) "__eq__" = some (some (.ref (He.ma K (kc K) "__eq__")))
  i___eq__ : PySem.W.isFn K (.ref (He.ma K (kc K) "__eq__")) = true
  f___repr__ : PySem.W.findIn K (.ref (kc K)) "__repr__" = some (some (.ref (He.ma K (kc K) "__repr__")))
  i___repr__ : PySem.W.isFn K (.ref (He.ma K (kc K) "__repr__")) = true
  ne : PySem.W.findIn K (.ref (kc K)) "__ne__" = some (some (.builtin "object.__ne__"))
  mo : PySem.W.mroIn K (kc K) (.type "object") = some true
  no_entries : NoAttr K (kc K) "_entries"
  no_reach : NoAttr K (kc K) "_reach"
  M_of : Ms K "of" "Kind.of" s_Kind_of (Kd.st K "of") ["entries"]
  M_reach : Ms K "reach" "Kind.reach" s_Kind_reach (Kd.pr K "reach") ["self"]
  M_is_flat : Ms K "is_flat" "Kind.is_flat" s_Kind_is_flat (Kd.pr K "is_flat") ["self"]
  M_entries : Ms K "entries" "Kind.entries" s_Kind_entries (He.ma K (kc K) "entries") ["self"]
  M_names : Ms K "names" "Kind.names" s_Kind_names (He.ma K (kc K) "names") ["self"]
  M_mirrored : Ms K "mirrored" "Kind.mirrored" s_Kind_mirrored (He.ma K (kc K) "mirrored") ["self"]
  M_turned : Ms K "turned" "Kind.turned" s_Kind_turned (He.ma K (kc K) "turned") ["self"]
  M___len__ : Ms K "__len__" "Kind.__len__" s_Kind___len (He.ma K (kc K) "__len__") ["self"]
  M___contains__ : Ms K "__contains__" "Kind.__contains__" s_Kind___contains (He.ma K (kc K) "__contains__") ["self", "x"]
  M___eq__ : Ms K "__eq__" "Kind.__eq__" s_Kind___eq (He.ma K (kc K) "__eq__") ["self", "other"]
  M___repr__ : Ms K "__repr__" "Kind.__repr__" s_Kind___repr (He.ma K (kc K) "__repr__") ["self"]
  M___init__ : ∃ fd, Fun K "__init__" "Kind.__init__" s_Kind___init (He.ma K (kc K) "__init__") fd
  kt : ∀ n ∈ Ty7, PySem.W.kitOne K (.type n) (.ref (kc K)) = some false ∧ PySem.W.kitOne K (.ref (kc K)) (.type n) = some false ∧ PySem.W.notFirst K (kc K) (.type n) = true
  kk : PySem.W.kitOne K (.ref (kc K)) (.ref (kc K)) = some true
  ca : PySem.W.findIn K (.ref (kc K)) "__class__" = some (some (.builtin "object.__class__"))
  cn : PySem.W.specialIn K (.builtin "object.__class__") "__get__" = some (some (.builtin "getset_descriptor.__get__"))
  ct : PySem.W.takesIn K (.builtin "object.__class__") = some true
end K11

set_option Elab.async false
set_option linter.all false
set_option maxRecDepth 100000
set_option maxHeartbeats 4000000
namespace K11
open PySem L2 Lay Own
local macro_rules | `(tactic| walk_at "ne") => `(tactic| first | assumption | (apply Ne.symm; assumption) | exact ne_of_none (by walk_at "look") (by assumption) | exact (ne_of_none (by walk_at "look") (by assumption)).symm)
local macro_rules | `(tactic| walk_at "look") => `(tactic| first | assumption | exact upd_same | (refine Eq.trans (upd_ne ?_) ?_; walk_at "ne"; walk_at "look"))
local macro_rules | `(tactic| walk_at "rds") => `(tactic| first | rfl | assumption | walk_at "look" | exact SqL.of (by walk_at "look") | exact SqT.of (by walk_at "look") | exact Or.inl (SqL.of (by walk_at "look")) | exact Or.inl (by assumption) | decide | omega | exact Nat.le_of_ble_eq_true rfl | exact Or.inr ⟨by decide, by decide⟩ | exact Or.inl ⟨by omega, by omega⟩ | exact ⟨by decide, by decide⟩)
local macro_rules | `(tactic| walk_at "rd1") => `(tactic| first | (apply Exists.intro) | (refine And.intro ?_ ?_; walk_at "rds") | (refine Or.inl ?_; apply Exists.intro; refine And.intro ?_ ?_; rfl))
local macro_rules | `(tactic| walk_at "rd") => `(tactic| repeat walk_at "rd1")
def letters : Str := "abcdefghijklmnopqrstuvwxyz"
def lets (z : Str) : List Bool := (List.range z.cps.size).map fun i => decide (z.cps.getD i 0 ∈ letters.cps.toList)
def nameB (z : Str) : Bool := (decide (1 ≤ (z.length : Int)) && decide ((z.length : Int) ≤ 8)) && (lets z).all id
def isI : V → Bool
  | .int _ => true
  | .bl _ => true
  | _ => false
def isB : V → Bool
  | .bl _ => true
  | _ => false
def isS : V → Bool
  | .str _ => true
  | _ => false
def dueI : V → Bool
  | .int _ => true
  | _ => false
def dB : V → Bool
  | .int i => decide (-20 ≤ i) && decide (i ≤ 20)
  | _ => false
def nB : V → Bool
  | .str z => nameB z
  | _ => false
theorem Txt.gs {K : PySem.W.Frag} {mg : Str → Option Value} (T : Txt K mg) : Exv.Gs K := ⟨T.cn, T.ct⟩
/-- the things that may be asked about -/
inductive It (K : PySem.W.Frag) (H : Hp) : V → Prop where
  | int (i : Int) : It K H (.int i)
  | str (z : Str) (h : z.length ≤ 100000) : It K H (.str z)
  | non : It K H .non
  | bl (b : Bool) : It K H (.bl b)
  | lst {a : Addr} {xs : List V} (h : H a = some (.lst xs)) : It K H (.ref a)
  | tup {a : Addr} {xs : List V} (h : H a = some (.tup xs)) : It K H (.ref a)
  | dct {a : Addr} {kvs : List (Key × V)} (h : H a = some (.dK kvs)) : It K H (.ref a)
  | own {a dx : Addr} {fs : List (Str × V)} (h : H a = some (.ins (kc K) dx fs)) : It K H (.ref a)
section
variable {K : PySem.W.Frag} {mg : Str → Option Value} {H H' : Hp} {x : V}
theorem It.same (h : It K H x) (e : L2.Same H H') : It K H' x := by
  cases h with
  | int i => exact .int i
  | str z h => exact .str z h
  | non => exact .non
  | bl b => exact .bl b
  | lst h => exact .lst (e _ _ h)
  | tup h => exact .tup (e _ _ h)
  | dct h => exact .dct (e _ _ h)
  | own h => exact .own (e _ _ h)
theorem own_ty (T : Txt K mg) {a dx : Addr} {fs : List (Str × V)} (h : H a = some (.ins (kc K) dx fs)) : TyX K H (.ref a) (.ref (kc K)) := .base (.ins h T.cls T.ca T.cn T.ct T.mo)
/-- what isinstance says of them -/
theorem It.isi (T : Txt K mg) (h : It K H x) : ∃ t, Exv.TyE K H x t ∧ PySem.W.kitOne K t (.type "int") = some (isI x) ∧ PySem.W.kitOne K t (.type "bool") = some (isB x) ∧ PySem.W.kitOne K t (.type "str") = some (isS x) := by
  cases h with
  | int i => exact ⟨_, .base (.base (.int i)), kit_ty (show kitB "int" "int" = some true from by decide +kernel), kit_ty (show kitB "int" "bool" = some false from by decide +kernel), kit_ty (show kitB "int" "str" = some false from by decide +kernel)⟩
  | str z h => exact ⟨_, .base (.base (.str z)), kit_ty (show kitB "str" "int" = some false from by decide +kernel), kit_ty (show kitB "str" "bool" = some false from by decide +kernel), kit_ty (show kitB "str" "str" = some true from by decide +kernel)⟩
  | non => exact ⟨_, .base (.base .non), kit_ty (show kitB "NoneType" "int" = some false from by decide +kernel), kit_ty (show kitB "NoneType" "bool" = some false from by decide +kernel), kit_ty (show kitB "NoneType" "str" = some false from by decide +kernel)⟩
  | bl b => exact ⟨_, .base (.base (.bl b)), kit_ty (show kitB "bool" "int" = some true from by decide +kernel), kit_ty (show kitB "bool" "bool" = some true from by decide +kernel), kit_ty (show kitB "bool" "str" = some false from by decide +kernel)⟩
  | lst h => exact ⟨_, .base (.base (.lst h)), kit_ty (show kitB "list" "int" = some false from by decide +kernel), kit_ty (show kitB "list" "bool" = some false from by decide +kernel), kit_ty (show kitB "list" "str" = some false from by decide +kernel)⟩
  | tup h => exact ⟨_, .base (.base (.tup h)), kit_ty (show kitB "tuple" "int" = some false from by decide +kernel), kit_ty (show kitB "tuple" "bool" = some false from by decide +kernel), kit_ty (show kitB "tuple" "str" = some false from by decide +kernel)⟩
  | dct h => exact ⟨_, .base (.base (.dK h)), kit_ty (show kitB "dict" "int" = some false from by decide +kernel), kit_ty (show kitB "dict" "bool" = some false from by decide +kernel), kit_ty (show kitB "dict" "str" = some false from by decide +kernel)⟩
  | own h => exact ⟨_, .base (own_ty T h), (T.kt "int" (by simp [Ty7])).2.1, (T.kt "bool" (by simp [Ty7])).2.1, (T.kt "str" (by simp [Ty7])).2.1⟩
theorem tup_isi (h : H (a : Addr) = some (.tup xs)) : ∃ t, Exv.TyE K H (.ref a) t ∧ PySem.W.kitOne K t (.type "tuple") = some true := ⟨_, .base (.base (.tup h)), kit_ty (show kitB "tuple" "tuple" = some true from by decide +kernel)⟩
/-- no tuple -/
theorem It.notT (T : Txt K mg) (h : It K H x) (n : ∀ a xs, x = .ref a → H a = some (.tup xs) → False) : ∃ t, Exv.TyE K H x t ∧ PySem.W.kitOne K t (.type "tuple") = some false := by
  cases h with
  | int i => exact ⟨_, .base (.base (.int i)), kit_ty (show kitB "int" "tuple" = some false from by decide +kernel)⟩
  | str z h => exact ⟨_, .base (.base (.str z)), kit_ty (show kitB "str" "tuple" = some false from by decide +kernel)⟩
  | non => exact ⟨_, .base (.base .non), kit_ty (show kitB "NoneType" "tuple" = some false from by decide +kernel)⟩
  | bl b => exact ⟨_, .base (.base (.bl b)), kit_ty (show kitB "bool" "tuple" = some false from by decide +kernel)⟩
  | lst h => exact ⟨_, .base (.base (.lst h)), kit_ty (show kitB "list" "tuple" = some false from by decide +kernel)⟩
  | tup h => exact (n _ _ rfl h).elim
  | dct h => exact ⟨_, .base (.base (.dK h)), kit_ty (show kitB "dict" "tuple" = some false from by decide +kernel)⟩
  | own h => exact ⟨_, .base (own_ty T h), (T.kt "tuple" (by simp [Ty7])).2.1⟩
end
section
variable {P : Program} {w : World} {K : PySem.W.Frag} {mg : Str → Option Value} {base : Heap}
def spIsI (K : PySem.W.Frag) : Sp := fun vs H Q _ => ∃ x, vs = [x] ∧ It K H x ∧ Q (.bl (dueI x)) H
def spIsN (K : PySem.W.Frag) : Sp := fun vs H Q _ => ∃ x, vs = [x] ∧ It K H x ∧ ∀ H', L2.Same H H' → Q (.bl (nB x)) H'
theorem d_is_integer (T : Txt K mg) : Df P w K mg base 1 "is_integer" ["value"] (spIsI K) := by
  refine T.S_is_integer.by sc_is_integer (fun vs H Q E h => ?_) (fun f cdv A outer s H vs Q E hr hgd h => ?_)
  · obtain ⟨x, rfl, _⟩ := h; rfl
  · obtain ⟨x, rfl, hx, k⟩ := h
    refine ⟨_, (pss_one (ps_ret (pe_and (pe_callB (Exv.call_isE T.gs) (by rfl) T.n_isinstance (by decide +kernel) (pa_cons (pv 0) (pa_cons (pe_bltn (v := .ty "int") (u := .type "int") (by rfl) T.n_int (by decide +kernel) rfl) pa_nil))) (pe_one (pe_not (pe_callB (Exv.call_isE T.gs) (by rfl) T.n_isinstance (by decide +kernel) (pa_cons (pv 0) (pa_cons (pe_bltn (v := .ty "bool") (u := .type "bool") (by rfl) T.n_bool (by decide +kernel) rfl) pa_nil)))))))), ?_⟩
    obtain ⟨t, ty, k1, k2, k3⟩ := hx.isi T
    refine ⟨_, rfl, x, .ty "int", t, .type "int", _, rfl, .ty _, ty, k1, _, rfl, ?_⟩
    refine ite2 (fun c => ?_) (fun c => ?_)
    · refine ⟨_, rfl, x, .ty "bool", t, .type "bool", _, rfl, .ty _, ty, k2, _, rfl, ?_⟩
      have e : (!isB x) = dueI x := by cases hx <;> first | rfl | cases c
      show Q (.bl (!isB x)) H
      rw [e]; exact k
    · have e : false = dueI x := by cases hx <;> first | rfl | exact absurd rfl c
      show Q (.bl false) H
      rw [e]; exact k
theorem d_is_name (T : Txt K mg) : Df P w K mg base 1 "is_name" ["value"] (spIsN K) := by
  refine T.S_is_name.by sc_is_name (fun vs H Q E h => ?_) (fun f cdv A outer s H vs Q E hr hgd h => ?_)
  · obtain ⟨x, rfl, _⟩ := h; rfl
  · obtain ⟨x, rfl, hx, k⟩ := h
    refine ⟨_, (pss_cons (ps_if (PW.pt (pw_or (pt_not (pt_val (pe_callB (Exv.call_isE T.gs) (by rfl) T.n_isinstance (by decide +kernel) (pa_cons (pv 0) (pa_cons (pe_bltn (v := .ty "str") (u := .type "str") (by rfl) T.n_str (by decide +kernel) rfl) pa_nil))))) (pw_or (pt_cmpR op_lt (pe_callB call_len_str (by rfl) T.n_len PySem.boot_len (pa_cons (pv 0) pa_nil)) pe_int (nomark _)) (pw_or1 (pt_cmpR op_gt (pe_callB call_len_str (by rfl) T.n_len PySem.boot_len (pa_cons (pv 0) pa_nil)) (pe_con1 T.c_MOST_LETTERS) (nomark _)))))) (pss_one (ps_ret pe_bl)) pss_nil)
      (pss_one (ps_ret (pe_and (pe_bm0 PySem.F.plainAttrs_str PySem.F.slot_str_isascii PySem.F.type_str_isascii mt_isascii (pv 0)) (pe_and (pe_bm0 PySem.F.plainAttrs_str PySem.F.slot_str_isalpha PySem.F.type_str_isalpha mt_isalpha (pv 0)) (pe_one (pe_bm0 PySem.F.plainAttrs_str PySem.F.slot_str_islower PySem.F.type_str_islower mt_islower (pv 0)))))))), ?_⟩
    obtain ⟨t, ty, k1, k2, k3⟩ := hx.isi T
    refine ⟨_, rfl, x, .ty "str", t, .type "str", _, rfl, .ty _, ty, k3, _, rfl, ?_⟩
    have no : isS x = false → nB x = false := fun e => by cases hx <;> first | rfl | cases e
    by_cases hs : isS x = true
    · rw [hs]
      cases hx with
      | str z h10 =>
        refine iteF ?_
        have zl : z.length ≤ sizeLine := Nat.le_trans h10 (by decide)
        refine ⟨_, rfl, z, rfl, zl, _, _, rfl, rfl, _, rfl, ?_⟩
        refine ite2 (fun c => ?_) (fun c => ?_)
        · refine iteT ?_
          have c1 := of_decide_eq_true c
          have e : nB (.str z) = false := by
            show nameB z = false
            unfold nameB
            rw [decide_eq_false (show ¬ 1 ≤ (z.length : Int) by omega)]
            rfl
          have q := k H (L2.Same.refl H)
          rw [e] at q
          exact q
        · have c1 : ¬ ((z.length : Int) < 1) := fun z => c (decide_eq_true z)
          refine ⟨_, rfl, z, rfl, zl, _, _, rfl, rfl, _, rfl, ?_⟩
          refine ite2 (fun c => ?_) (fun c => ?_)
          · have c2 := of_decide_eq_true c
            have e : nB (.str z) = false := by
              show nameB z = false
              unfold nameB
              rw [decide_eq_false (show ¬ (z.length : Int) ≤ 8 by omega), Bool.and_false]
              rfl
            have q := k H (L2.Same.refl H)
            rw [e] at q
            exact q
          · have c2 : ¬ ((8 : Int) < (z.length : Int)) := fun z => c (decide_eq_true z)
            have e : nB (.str z) = Sgn.signB z := by
              rw [Sgn.signs_eq (by omega)]
              show nameB z = _
              unfold nameB
              rw [decide_eq_true (show 1 ≤ (z.length : Int) by omega), decide_eq_true (show (z.length : Int) ≤ 8 by omega)]
              rfl
            have q := k H (L2.Same.refl H)
            rw [e] at q
            unfold Sgn.signB at q
            refine ⟨_, rfl, rfl, z, rfl, rfl, trivial, _, rfl, ?_⟩
            cases a1 : PySem.Txt.isascii z with
            | false => rw [a1] at q; exact iteF q
            | true =>
              rw [a1] at q
              refine iteT ⟨_, rfl, rfl, z, rfl, rfl, trivial, _, rfl, ?_⟩
              cases a2 : PySem.Txt.isalpha z with
              | false => rw [a2] at q; exact iteF q
              | true =>
                rw [a2] at q
                exact iteT ⟨_, rfl, rfl, z, rfl, rfl, trivial, q⟩
      | _ => cases hs
    · have hs' : isS x = false := Bool.eq_false_iff.mpr hs
      rw [hs']
      refine iteT (iteT ?_)
      have q := k H (L2.Same.refl H)
      rw [no hs'] at q
      exact q
def spDist (K : PySem.W.Frag) : Sp := fun vs H Q _ => ∃ x, vs = [x] ∧ It K H x ∧ Q (.bl (dB x)) H
theorem d_is_distance (T : Txt K mg) : Df P w K mg base 2 "is_distance" ["value"] (spDist K) := by
  have D_is_integer := d_is_integer (P := P) (w := w) (base := base) T
  refine T.S_is_distance.by sc_is_distance (fun vs H Q E h => ?_) (fun f cdv A outer s H vs Q E hr hgd h => ?_)
  · obtain ⟨x, rfl, _⟩ := h; rfl
  · obtain ⟨x, rfl, hx, k⟩ := h
    refine ⟨_, (pss_one (ps_ret (pe_and (pe_own D_is_integer (hr.mono (by first | decide | omega)) hgd (pa_cons (pv 0) pa_nil)) (pe_one (pe_chain op_le op_le (pe_un un_neg (pe_con1 T.c_FARTHEST)) (pv 0) (pe_con1 T.c_FARTHEST)))))), ?_⟩
    refine ⟨_, rfl, x, rfl, hx, _, rfl, ?_⟩
    refine ite2 (fun c => ?_) (fun c => ?_)
    · cases hx with
      | int i =>
        refine ⟨_, rfl, _, rfl, _, _, rfl, rfl, _, rfl, ?_⟩
        refine ite2 (fun c1 => ?_) (fun c1 => ?_)
        · refine ⟨_, _, rfl, rfl, ?_⟩
          have e : dB (.int i) = decide (i ≤ 20) := by
            show (decide (-20 ≤ i) && decide (i ≤ 20)) = _
            rw [c1]; rfl
          rw [e] at k; exact k
        · have e : dB (.int i) = false := by
            show (decide (-20 ≤ i) && decide (i ≤ 20)) = _
            rw [Bool.eq_false_iff.mpr c1]; rfl
          rw [e] at k; exact k
      | _ => cases c
    · have e : false = dB x := by cases hx <;> first | rfl | exact absurd rfl c
      show Q (.bl false) H
      rw [e]; exact k
end
end K11

set_option Elab.async false
set_option linter.all false
set_option maxRecDepth 100000
set_option maxHeartbeats 4000000
namespace K11
open PySem L2 Lay Own SrtO
local macro_rules | `(tactic| walk_at "ne") => `(tactic| first | assumption | (apply Ne.symm; assumption) | exact ne_of_none (by walk_at "look") (by assumption) | exact (ne_of_none (by walk_at "look") (by assumption)).symm)
local macro_rules | `(tactic| walk_at "look") => `(tactic| first | assumption | exact upd_same | (refine Eq.trans (upd_ne ?_) ?_; walk_at "ne"; walk_at "look"))
local macro_rules | `(tactic| walk_at "rds") => `(tactic| first | rfl | assumption | walk_at "look" | exact SqL.of (by walk_at "look") | exact SqT.of (by walk_at "look") | exact Or.inl (SqL.of (by walk_at "look")) | exact Or.inl (by assumption) | decide | omega | exact Nat.le_of_ble_eq_true rfl | exact Or.inr ⟨by decide, by decide⟩ | exact Or.inl ⟨by omega, by omega⟩ | exact ⟨by decide, by decide⟩)
local macro_rules | `(tactic| walk_at "rd1") => `(tactic| first | (apply Exists.intro) | (refine And.intro ?_ ?_; walk_at "rds") | (refine Or.inl ?_; apply Exists.intro; refine And.intro ?_ ?_; rfl))
local macro_rules | `(tactic| walk_at "rd") => `(tactic| repeat walk_at "rd1")
section
variable {P : Program} {w : World} {K : PySem.W.Frag} {mg : Str → Option Value} {base : Heap}
theorem ty_lst {K : PySem.W.Frag} {H : Hp} {l : Addr} {xs : List V} (h : H l = some (.lst xs)) : tyV K "list" (.ref l) H := .inl ⟨rfl, xs, SqL.of h⟩
/-! is_entry -/
def spEnt (K : PySem.W.Frag) : Sp := fun vs H Q _ => ∃ x, vs = [x] ∧ It K H x ∧
  (((∀ a xs, x = .ref a → H a = some (.tup xs) → xs.length ≠ 3) ∧ ∀ H', L2.Same H H' → Q (.bl false) H') ∨
   ∃ a x1 x2 x3, x = .ref a ∧ H a = some (.tup [x1, x2, x3]) ∧ It K H x1 ∧ It K H x2 ∧ It K H x3 ∧ ∀ H', L2.Same H H' → Q (.bl (dB x1 && (dB x2 && nB x3))) H')
theorem d_is_entry (T : Txt K mg) : Df P w K mg base 3 "is_entry" ["value"] (spEnt K) := by
  have D_is_distance := d_is_distance (P := P) (w := w) (base := base) T
  have D_is_name := d_is_name (P := P) (w := w) (base := base) T
  refine T.S_is_entry.by sc_is_entry (fun vs H Q E h => ?_) (fun f cdv A outer s H vs Q E hr hgd h => ?_)
  · obtain ⟨x, rfl, _⟩ := h; rfl
  · obtain ⟨x, rfl, hx, h⟩ := h
    refine ⟨_, (pss_cons (ps_if (PW.pt (pw_or (pt_not (pt_val (pe_callB (Exv.call_isE T.gs) (by rfl) T.n_isinstance (by decide +kernel) (pa_cons (pv 0) (pa_cons (pe_bltn (v := .ty "tuple") (u := .type "tuple") (by rfl) T.n_tuple (by decide +kernel) rfl) pa_nil))))) (pw_or1 (pt_cmpR op_ne (pe_callB call_len_seq (by rfl) T.n_len PySem.boot_len (pa_cons (pv 0) pa_nil)) pe_int (nomark _))))) (pss_one (ps_ret pe_bl)) pss_nil)
      (pss_cons (ps_asg (pv 0) (pg_tup rfl (pgs_cons (pg_name (i := 1) sc_is_entry.nd rfl (by first | exact Or.inl rfl | exact Or.inr rfl)) (pgs_cons (pg_name (i := 2) sc_is_entry.nd rfl (by first | exact Or.inl rfl | exact Or.inr rfl)) (pgs_cons (pg_name (i := 3) sc_is_entry.nd rfl (by first | exact Or.inl rfl | exact Or.inr rfl)) pgs_nil)))))
      (pss_one (ps_ret (pe_and (pe_own D_is_distance (hr.mono (by first | decide | omega)) hgd (pa_cons (pv 1) pa_nil)) (pe_and (pe_own D_is_distance (hr.mono (by first | decide | omega)) hgd (pa_cons (pv 2) pa_nil)) (pe_one (pe_own D_is_name (hr.mono (by first | decide | omega)) hgd (pa_cons (pv 3) pa_nil))))))))), ?_⟩
    by_cases ht : ∃ a xs, x = .ref a ∧ H a = some (.tup xs)
    · obtain ⟨a, xs, rfl, ha⟩ := ht
      obtain ⟨t, ty, kt⟩ := tup_isi (K := K) ha
      refine ⟨_, rfl, _, .ty "tuple", t, .type "tuple", _, rfl, .ty _, ty, kt, _, rfl, ?_⟩
      refine iteF ?_
      refine ⟨_, rfl, a, xs, rfl, .inr (SqT.of ha), ?_⟩
      walk_at "rd"
      rcases h with ⟨n3, k⟩ | ⟨a', x1, x2, x3, e, ha', h1, h2, h3, k⟩
      · have : (xs.length : Int) ≠ 3 := fun z => n3 a xs rfl ha (by omega)
        have e : decide (V.int (xs.length : Int) = V.int 3) = false := decide_eq_false fun z => this (V.int.inj z)
        rw [e]
        refine iteT ?_
        exact k _ (L2.Same.refl H)
      · cases e
        rw [ha] at ha'
        cases ha'
        refine iteF ?_
        refine ⟨_, rfl, a, _, rfl, SqT.of ha, rfl, ?_⟩
        walk_at "rd"
        refine ite2 (fun c => ?_) (fun c => ?_)
        · rw [c] at k
          walk_at "rd"
          refine ite2 (fun c => ?_) (fun c => ?_)
          · rw [c] at k
            walk_at "rd"
            exact fun H' s => k H' s
          · rw [Bool.eq_false_iff.mpr c] at k
            exact k H (L2.Same.refl H)
        · rw [Bool.eq_false_iff.mpr c] at k
          exact k H (L2.Same.refl H)
    · obtain ⟨t, ty, kt⟩ := hx.notT T fun a xs e ha => ht ⟨a, xs, e, ha⟩
      refine ⟨_, rfl, _, .ty "tuple", t, .type "tuple", _, rfl, .ty _, ty, kt, _, rfl, ?_⟩
      refine iteT (iteT ?_)
      rcases h with ⟨_, k⟩ | ⟨a', x1, x2, x3, e, ha', _⟩
      · exact k H (L2.Same.refl H)
      · exact (ht ⟨_, _, e, ha'⟩).elim
/-! merged -/
def LtOk (H : Hp) (lt : V → V → Bool) (xs : List V) : Prop := ∀ H', L2.Same H H' → ∀ x ∈ xs, ∀ y ∈ xs, Cm H' x y (lt x y)
def spMerged (K : PySem.W.Frag) : Sp := fun vs H Q _ => ∃ (a b : Addr) (xs ys : List V) (lt : V → V → Bool), vs = [.ref a, .ref b] ∧ SqL K H a xs ∧ SqL K H b ys ∧ Swo lt ∧ LtOk H lt (xs ++ ys) ∧ Sd lt xs ∧ Sd lt ys ∧ xs.length ≤ 64 ∧ ys.length ≤ 64 ∧
  ∀ zs p H', L2.Same H H' → H p = none → H' p = some (.lst zs) → zs.Perm (xs ++ ys) → Sd lt zs → Q (.ref p) H'
theorem d_merged (T : Txt K mg) : Df P w K mg base 1 "merged" ["one", "other"] (spMerged K) := by
  refine T.S_merged.by sc_merged (fun vs H Q E h => ?_) (fun f cdv A outer s H vs Q E hr hgd h => ?_)
  · obtain ⟨a, b, xs, ys, lt, rfl, _⟩ := h; rfl
  · obtain ⟨a, b, xs, ys, lt, rfl, ha, hb, O, ok, sx, sy, lx, ly, k⟩ := h
    refine ⟨_, (pss_cons (ps_set (i := 2) sc_merged.nd rfl (by first | exact Or.inl rfl | exact Or.inr rfl) (pe_lst pa_nil))
      (pss_cons (ps_asg2 pe_int (pg_name (i := 3) sc_merged.nd rfl (by first | exact Or.inl rfl | exact Or.inr rfl)) (pg_name (i := 4) sc_merged.nd rfl (by first | exact Or.inl rfl | exact Or.inr rfl)))
      (pss_cons (ps_while PassesOwn.never (PW.pt (pw_and (pt_cmpR op_lt (pv 3) (pe_callB call_len_seq (by rfl) T.n_len PySem.boot_len (pa_cons (pv 0) pa_nil)) (nomark _)) (pw_and1 (pt_cmpR op_lt (pv 4) (pe_callB call_len_seq (by rfl) T.n_len PySem.boot_len (pa_cons (pv 1) pa_nil)) (nomark _))))) (pss_one (ps_if (pt_cmpR (op_ltV hr.units0) (pe_ix ix_list (pv 1) (pv 4) (fun _ _ => rfl)) (pe_ix ix_list (pv 0) (pv 3) (fun _ _ => rfl)) (nomark _)) (pss_cons (ps_expr (pe_bm PySem.F.plainAttrs_list PySem.F.slot_list_append PySem.F.type_list_append mt_append (pv 2) (pa_cons (pe_ix ix_list (pv 1) (pv 4) (fun _ _ => rfl)) pa_nil)))
      (pss_one (ps_set (i := 4) sc_merged.nd rfl (by first | exact Or.inl rfl | exact Or.inr rfl) (pe_op op_add (pv 4) pe_int)))) (pss_cons (ps_expr (pe_bm PySem.F.plainAttrs_list PySem.F.slot_list_append PySem.F.type_list_append mt_append (pv 2) (pa_cons (pe_ix ix_list (pv 0) (pv 3) (fun _ _ => rfl)) pa_nil)))
      (pss_one (ps_set (i := 3) sc_merged.nd rfl (by first | exact Or.inl rfl | exact Or.inr rfl) (pe_op op_add (pv 3) pe_int)))))))
      (pss_one (ps_ret (pe_op op_cat (pe_op op_cat (pv 2) (pe_callTy call_list_of (by rfl) T.n_list (by decide +kernel) (pa_cons (pe_slice sl_list (pv 0) (po_some (pv 3)) po_none) pa_nil))) (pe_callTy call_list_of (by rfl) T.n_list (by decide +kernel) (pa_cons (pe_slice sl_list (pv 1) (po_some (pv 4)) po_none) pa_nil)))))))), ?_⟩
    walk_at "rd"
    intro o no
    refine ⟨fun m σ H' => ∃ (i j : Nat) (out : List V), σ = [some (.ref a), some (.ref b), some (.ref o), some (.int i), some (.int j)] ∧ m = (xs.length - i) + (ys.length - j) ∧ i ≤ xs.length ∧ j ≤ ys.length ∧ out.length = i + j ∧ L2.Same H H' ∧ H' o = some (.lst out) ∧ MI lt xs ys i j out,
      ⟨_, 0, 0, [], rfl, rfl, Nat.zero_le _, Nat.zero_le _, rfl, Same.new no, upd_same, .start⟩, ?_⟩
    rintro m σ H1 ⟨i, j, out, rfl, rfl, hi, hj, lo, s1, ho, mi⟩
    have fin : xs.length ≤ i ∨ ys.length ≤ j → ∀ p H', L2.Same H1 H' → H1 p = none → H' p = some (.lst (out ++ xs.drop i ++ ys.drop j)) → Q (.ref p) H' := fun c p H' s np hp => by
      obtain ⟨q1, q2⟩ := mi.fin sx sy c
      refine k _ p H' (s1.trans s) ?_ hp q1 q2
      cases e : H p with
      | none => rfl
      | some u => rw [s1 _ _ e] at np; cases np
    have ha1 := s1.seq ha
    have hb1 := s1.seq hb
    walk_at "rd"
    refine ite2 (fun c => ?_) (fun c => ?_)
    · have c1 := of_decide_eq_true c
      walk_at "rd"
      refine ite2 (fun c => ?_) (fun c => ?_)
      · have c2 := of_decide_eq_true c
        have hi' : i < xs.length := by omega
        have hj' : j < ys.length := by omega
        have ex := List.getElem?_eq_getElem hi'
        have ey := List.getElem?_eq_getElem hj'
        refine ⟨fun σ H' => ∃ (i' j' : Nat) (out' : List V), σ = [some (.ref a), some (.ref b), some (.ref o), some (.int i'), some (.int j')] ∧ (xs.length - i') + (ys.length - j') < (xs.length - i) + (ys.length - j) ∧ i' ≤ xs.length ∧ j' ≤ ys.length ∧ out'.length = i' + j' ∧ L2.Same H H' ∧ H' o = some (.lst out') ∧ MI lt xs ys i' j' out', ?_, ?_⟩
        · rintro σ' H' ⟨i', j', out', rfl, hm, q⟩
          exact ⟨_, hm, i', j', out', rfl, rfl, q⟩
        have mx : xs[i] ∈ xs ++ ys := List.mem_append_left _ (List.getElem_mem hi')
        have my : ys[j] ∈ xs ++ ys := List.mem_append_right _ (List.getElem_mem hj')
        have cm := ok H1 s1 _ my _ mx
        refine ⟨_, rfl, _, rfl, b, ys, (j : Int), ys[j], rfl, rfl, hb1, atI_nat ey, _, rfl, _, rfl, a, xs, (i : Int), xs[i], rfl, rfl, ha1, atI_nat ex, _, cm, _, rfl, ?_⟩
        refine ite2 (fun cc => ?_) (fun cc => ?_)
        · refine ⟨_, rfl, ty_lst ho, _, rfl, _, rfl, b, ys, (j : Int), ys[j], rfl, rfl, hb1, atI_nat ey, ?_⟩
          refine ⟨o, out, _, rfl, rfl, ho, Nat.lt_of_le_of_lt (m := 128) (by omega) (by decide), ?_⟩
          refine ⟨_, rfl, _, _, rfl, rfl, ?_⟩
          refine ⟨i, j + 1, _, rfl, by omega, hi, by omega, by rw [List.length_append, lo]; rfl, Same.mut s1 no, upd_same, mi.b O sx sy ex ey cc⟩
        · refine ⟨_, rfl, ty_lst ho, _, rfl, _, rfl, a, xs, (i : Int), xs[i], rfl, rfl, ha1, atI_nat ex, ?_⟩
          refine ⟨o, out, _, rfl, rfl, ho, Nat.lt_of_le_of_lt (m := 128) (by omega) (by decide), ?_⟩
          refine ⟨_, rfl, _, _, rfl, rfl, ?_⟩
          refine ⟨i + 1, j, _, rfl, by omega, by omega, hj, by rw [List.length_append, lo]; show i + j + 1 = _; omega, Same.mut s1 no, upd_same, mi.a O sx sy ex ey (Bool.eq_false_iff.mpr cc)⟩
      · have c2 : ¬ ((j : Int) < (ys.length : Int)) := fun z => c (decide_eq_true z)
        walk_at "rd"
        intro p1 n1
        rw [cut_from hi]
        have t1 := Same.new (o := .lst (xs.drop i)) n1
        walk_at "rd"
        intro p2 n2
        have t2 := Same.new (o := .lst (xs.drop i)) n2
        refine ⟨o, p2, out, xs.drop i, rfl, rfl, t2 _ _ (t1 _ _ ho), upd_same, Nat.le_trans (m := 192) (by rw [List.length_drop]; omega) (by decide), fun p3 n3 => ?_⟩
        have t3 := Same.new (o := .lst (out ++ xs.drop i)) n3
        have hb3 := t3.seq (t2.seq (t1.seq hb1))
        walk_at "rd"
        intro p4 n4
        rw [cut_from hj]
        have t4 := Same.new (o := .lst (ys.drop j)) n4
        walk_at "rd"
        intro p5 n5
        have t5 := Same.new (o := .lst (ys.drop j)) n5
        refine ⟨p3, p5, out ++ xs.drop i, ys.drop j, rfl, rfl, t5 _ _ (t4 _ _ upd_same), upd_same, Nat.le_trans (m := 256) (by rw [List.length_append, List.length_drop, List.length_drop]; omega) (by decide), fun p6 n6 => ?_⟩
        have tt := t1.trans (t2.trans (t3.trans (t4.trans t5)))
        refine fin (.inr (by omega)) p6 _ (tt.trans (Same.new n6)) ?_ upd_same
        cases e : H1 p6 with
        | none => rfl
        | some u => rw [tt _ _ e] at n6; cases n6
    · have c1 : ¬ ((i : Int) < (xs.length : Int)) := fun z => c (decide_eq_true z)
      walk_at "rd"
      intro p1 n1
      rw [cut_from hi]
      have t1 := Same.new (o := .lst (xs.drop i)) n1
      walk_at "rd"
      intro p2 n2
      have t2 := Same.new (o := .lst (xs.drop i)) n2
      refine ⟨o, p2, out, xs.drop i, rfl, rfl, t2 _ _ (t1 _ _ ho), upd_same, Nat.le_trans (m := 192) (by rw [List.length_drop]; omega) (by decide), fun p3 n3 => ?_⟩
      have t3 := Same.new (o := .lst (out ++ xs.drop i)) n3
      have hb3 := t3.seq (t2.seq (t1.seq hb1))
      walk_at "rd"
      intro p4 n4
      rw [cut_from hj]
      have t4 := Same.new (o := .lst (ys.drop j)) n4
      walk_at "rd"
      intro p5 n5
      have t5 := Same.new (o := .lst (ys.drop j)) n5
      refine ⟨p3, p5, out ++ xs.drop i, ys.drop j, rfl, rfl, t5 _ _ (t4 _ _ upd_same), upd_same, Nat.le_trans (m := 256) (by rw [List.length_append, List.length_drop, List.length_drop]; omega) (by decide), fun p6 n6 => ?_⟩
      have tt := t1.trans (t2.trans (t3.trans (t4.trans t5)))
      refine fin (.inl (by omega)) p6 _ (tt.trans (Same.new n6)) ?_ upd_same
      cases e : H1 p6 with
      | none => rfl
      | some u => rw [tt _ _ e] at n6; cases n6
end
end K11

set_option Elab.async false
set_option linter.all false
set_option maxRecDepth 100000
set_option maxHeartbeats 4000000
namespace K11
open PySem L2 Lay Own SrtO
local macro_rules | `(tactic| walk_at "ne") => `(tactic| first | assumption | (apply Ne.symm; assumption) | exact ne_of_none (by walk_at "look") (by assumption) | exact (ne_of_none (by walk_at "look") (by assumption)).symm)
local macro_rules | `(tactic| walk_at "look") => `(tactic| first | assumption | exact upd_same | (refine Eq.trans (upd_ne ?_) ?_; walk_at "ne"; walk_at "look"))
local macro_rules | `(tactic| walk_at "rds") => `(tactic| first | rfl | assumption | walk_at "look" | exact SqL.of (by walk_at "look") | exact SqT.of (by walk_at "look") | exact Or.inl (SqL.of (by walk_at "look")) | exact Or.inl (by assumption) | decide | omega | exact Nat.le_of_ble_eq_true rfl | exact Or.inr ⟨by decide, by decide⟩ | exact Or.inl ⟨by omega, by omega⟩ | exact ⟨by decide, by decide⟩)
local macro_rules | `(tactic| walk_at "rd1") => `(tactic| first | (apply Exists.intro) | (refine And.intro ?_ ?_; walk_at "rds") | (refine Or.inl ?_; apply Exists.intro; refine And.intro ?_ ?_; rfl))
local macro_rules | `(tactic| walk_at "rd") => `(tactic| repeat walk_at "rd1")
section
variable {P : Program} {w : World} {K : PySem.W.Frag} {mg : Str → Option Value} {base : Heap}
def spOrd (K : PySem.W.Frag) (n : Nat) : Sp := fun vs H Q _ => ∃ (a : Addr) (xs : List V) (lt : V → V → Bool), vs = [.ref a] ∧ SqL K H a xs ∧ Swo lt ∧ LtOk H lt xs ∧ xs.length ≤ 2 ^ n ∧
  ∀ zs p H', L2.Same H H' → H p = none → H' p = some (.lst zs) → zs.Perm xs → Sd lt zs → Q (.ref p) H'
theorem d_ord0 (T : Txt K mg) : Df P w K mg base 1 "in_order" ["rows"] (spOrd K 0) := by
  refine T.S_in_order.by sc_in_order (fun vs H Q E h => ?_) (fun f cdv A outer s H vs Q E hr hgd h => ?_)
  · obtain ⟨a, xs, lt, rfl, _⟩ := h; rfl
  · obtain ⟨a, xs, lt, rfl, ha, O, ok, hl, k⟩ := h
    refine ⟨_, (pss_cons (ps_if (pt_cmpR op_lt (pe_callB call_len_seq (by rfl) T.n_len PySem.boot_len (pa_cons (pv 0) pa_nil)) pe_int (nomark _)) (pss_one (ps_ret (pe_callTy call_list_of (by rfl) T.n_list (by decide +kernel) (pa_cons (pv 0) pa_nil)))) pss_nil)
      (pss_cons ps_never
      (pss_one ps_never))), ?_⟩
    have h1 : xs.length ≤ 1 := hl
    walk_at "rd"
    rw [decide_eq_true (show (xs.length : Int) < 2 by omega)]
    refine iteT ?_
    walk_at "rd"
    intro p np
    refine k xs p _ (Same.new np) np upd_same (List.Perm.refl _) (sd_short h1)
end
end K11

set_option Elab.async false
set_option linter.all false
set_option maxRecDepth 100000
set_option maxHeartbeats 4000000
namespace K11
open PySem L2 Lay Own SrtO
local macro_rules | `(tactic| walk_at "ne") => `(tactic| first | assumption | (apply Ne.symm; assumption) | exact ne_of_none (by walk_at "look") (by assumption) | exact (ne_of_none (by walk_at "look") (by assumption)).symm)
local macro_rules | `(tactic| walk_at "look") => `(tactic| first | assumption | exact upd_same | (refine Eq.trans (upd_ne ?_) ?_; walk_at "ne"; walk_at "look"))
local macro_rules | `(tactic| walk_at "rds") => `(tactic| first | rfl | assumption | walk_at "look" | exact SqL.of (by walk_at "look") | exact SqT.of (by walk_at "look") | exact Or.inl (SqL.of (by walk_at "look")) | exact Or.inl (by assumption) | decide | omega | exact Nat.le_of_ble_eq_true rfl | exact Or.inr ⟨by decide, by decide⟩ | exact Or.inl ⟨by omega, by omega⟩ | exact ⟨by decide, by decide⟩)
local macro_rules | `(tactic| walk_at "rd1") => `(tactic| first | (apply Exists.intro) | (refine And.intro ?_ ?_; walk_at "rds") | (refine Or.inl ?_; apply Exists.intro; refine And.intro ?_ ?_; rfl))
local macro_rules | `(tactic| walk_at "rd") => `(tactic| repeat walk_at "rd1")
section
variable {P : Program} {w : World} {K : PySem.W.Frag} {mg : Str → Option Value} {base : Heap}
theorem d_ordS (T : Txt K mg) (n : Nat) (hn : n < 6) (D_in_order : Df P w K mg base (n + 1) "in_order" ["rows"] (spOrd K n)) : Df P w K mg base (n + 2) "in_order" ["rows"] (spOrd K (n + 1)) := by
  have D_merged := d_merged (P := P) (w := w) (base := base) T
  refine T.S_in_order.by sc_in_order (fun vs H Q E h => ?_) (fun f cdv A outer s H vs Q E hr hgd h => ?_)
  · obtain ⟨a, xs, lt, rfl, _⟩ := h; rfl
  · obtain ⟨a, xs, lt, rfl, ha, O, ok, hl, k⟩ := h
    refine ⟨_, (pss_cons (ps_if (pt_cmpR op_lt (pe_callB call_len_seq (by rfl) T.n_len PySem.boot_len (pa_cons (pv 0) pa_nil)) pe_int (nomark _)) (pss_one (ps_ret (pe_callTy call_list_of (by rfl) T.n_list (by decide +kernel) (pa_cons (pv 0) pa_nil)))) pss_nil)
      (pss_cons (ps_set (i := 1) sc_in_order.nd rfl (by first | exact Or.inl rfl | exact Or.inr rfl) (pe_op op_fdiv (pe_callB call_len_seq (by rfl) T.n_len PySem.boot_len (pa_cons (pv 0) pa_nil)) pe_int))
      (pss_one (ps_ret (pe_own D_merged (hr.mono (by first | decide | omega)) hgd (pa_cons (pe_own D_in_order (hr.mono (by first | decide | omega)) hgd (pa_cons (pe_slice sl_list (pv 0) po_none (po_some (pv 1))) pa_nil)) (pa_cons (pe_own D_in_order (hr.mono (by first | decide | omega)) hgd (pa_cons (pe_slice sl_list (pv 0) (po_some (pv 1)) po_none) pa_nil)) pa_nil))))))), ?_⟩
    have h64 : xs.length ≤ 64 := Nat.le_trans hl (show 2 ^ (n + 1) ≤ 2 ^ 6 from Nat.pow_le_pow_right (by decide) (by omega))
    walk_at "rd"
    refine ite2 (fun c => ?_) (fun c => ?_)
    · have c1 := of_decide_eq_true c
      walk_at "rd"
      intro p np
      refine k xs p _ (Same.new np) np upd_same (List.Perm.refl _) (sd_short (by omega))
    · have c1 : ¬ ((xs.length : Int) < 2) := fun z => c (decide_eq_true z)
      have e2 : (xs.length : Int) / 2 = ((xs.length / 2 : Nat) : Int) := by omega
      have pw : 2 ^ (n + 1) = 2 * 2 ^ n := by rw [Nat.pow_succ]; omega
      walk_at "rd"
      intro p np
      rw [e2, cut_to (by omega)]
      have t1 := Same.new (o := .lst (xs.take (xs.length / 2))) np
      have okT : ∀ H2, L2.Same H H2 → ∀ ys, (∀ y ∈ ys, y ∈ xs) → LtOk H2 lt ys := fun H2 s ys hy H3 s3 x hx y hy' => ok H3 (s.trans s3) x (hy x hx) y (hy y hy')
      refine ⟨p, xs.take (xs.length / 2), lt, rfl, SqL.of upd_same, O, okT _ t1 _ (fun y h => List.mem_of_mem_take h), by rw [List.length_take]; omega, fun zs1 q1 H1 s1 n1 h1 pm1 sd1 => ?_⟩
      have t2 := t1.trans s1
      have ha1 := t2.seq ha
      walk_at "rd"
      intro p2 np2
      rw [e2, cut_from (by omega)]
      have t3 := Same.new (o := .lst (xs.drop (xs.length / 2))) np2
      refine ⟨p2, xs.drop (xs.length / 2), lt, rfl, SqL.of upd_same, O, okT _ (t2.trans t3) _ (fun y h => List.mem_of_mem_drop h), by rw [List.length_drop]; omega, fun zs2 q2 H2 s2 n2 h2 pm2 sd2 => ?_⟩
      have l1 := pm1.length_eq
      have l2 := pm2.length_eq
      rw [List.length_take] at l1
      rw [List.length_drop] at l2
      refine ⟨q1, q2, zs1, zs2, lt, rfl, SqL.of (s2 _ _ (t3 _ _ h1)), SqL.of h2, O, ?_, sd1, sd2, by omega, by omega, fun zs p3 H3 s3 n3 h3 pm sd => ?_⟩
      · refine okT _ (t2.trans (t3.trans s2)) _ fun y h => ?_
        rcases List.mem_append.mp h with h | h
        · exact List.mem_of_mem_take (pm1.mem_iff.mp h)
        · exact List.mem_of_mem_drop (pm2.mem_iff.mp h)
      · refine k zs p3 H3 (t2.trans (t3.trans (s2.trans s3))) ?_ h3 ?_ sd
        · cases e : H p3 with
          | none => rfl
          | some u => rw [t2.trans (t3.trans s2) _ _ e] at n3; cases n3
        · refine pm.trans ((pm1.append pm2).trans ?_)
          rw [List.take_append_drop]
theorem d_ord (T : Txt K mg) : ∀ n, n ≤ 6 → Df P w K mg base (n + 1) "in_order" ["rows"] (spOrd K n)
  | 0, _ => d_ord0 T
  | n + 1, h => d_ordS T n (by omega) (d_ord T n (by omega))
end
end K11

set_option Elab.async false
set_option linter.all false
set_option maxRecDepth 100000
set_option maxHeartbeats 4000000
namespace K11
open PySem L2 Lay Own SrtO
local macro_rules | `(tactic| walk_at "ne") => `(tactic| first | assumption | (apply Ne.symm; assumption) | exact ne_of_none (by walk_at "look") (by assumption) | exact (ne_of_none (by walk_at "look") (by assumption)).symm)
local macro_rules | `(tactic| walk_at "look") => `(tactic| first | assumption | exact upd_same | (refine Eq.trans (upd_ne ?_) ?_; walk_at "ne"; walk_at "look"))
local macro_rules | `(tactic| walk_at "rds") => `(tactic| first | rfl | assumption | walk_at "look" | exact SqL.of (by walk_at "look") | exact SqT.of (by walk_at "look") | exact Or.inl (SqL.of (by walk_at "look")) | exact Or.inl (by assumption) | decide | omega | exact Nat.le_of_ble_eq_true rfl | exact Or.inr ⟨by decide, by decide⟩ | exact Or.inl ⟨by omega, by omega⟩ | exact ⟨by decide, by decide⟩)
local macro_rules | `(tactic| walk_at "rd1") => `(tactic| first | (apply Exists.intro) | (refine And.intro ?_ ?_; walk_at "rds") | (refine Or.inl ?_; apply Exists.intro; refine And.intro ?_ ?_; rfl))
local macro_rules | `(tactic| walk_at "rd") => `(tactic| repeat walk_at "rd1")
section
variable {P : Program} {w : World} {K : PySem.W.Frag} {mg : Str → Option Value} {base : Heap}
theorem ix_tupK {cx : Cx} {C : PySem.W.Frag} (h : cx.K = C) : IxR cx (rIxT C) := h ▸ ix_tup
theorem un66 {k : Nat} {B : Around} (hr : Room k B) : B.units + 66 < cLine := by
  have := hr.un
  omega
/-! is_list -/
def spIsL (K : PySem.W.Frag) : Sp := fun vs H Q _ => ∃ a xs, vs = [.ref a] ∧ (H a = some (.lst xs) ∨ H a = some (.tup xs)) ∧ ∀ H', L2.Same H H' → Q (.bl true) H'
theorem d_is_list (T : Txt K mg) : Df P w K mg base 1 "is_list" ["value"] (spIsL K) := by
  refine T.S_is_list.by sc_is_list (fun vs H Q E h => ?_) (fun f cdv A outer s H vs Q E hr hgd h => ?_)
  · obtain ⟨a, xs, rfl, _⟩ := h; rfl
  · obtain ⟨a, xs, rfl, ha, k⟩ := h
    refine ⟨_, (pss_one (ps_ret (pe_callB call_isiT (by rfl) T.n_isinstance (by decide +kernel) (pa_cons (pv 0) (pa_cons (pe_tup (pa_cons (pe_bltn (v := .ty "list") (u := .type "list") (by rfl) T.n_list (by decide +kernel) rfl) (pa_cons (pe_bltn (v := .ty "tuple") (u := .type "tuple") (by rfl) T.n_tuple (by decide +kernel) rfl) pa_nil))) pa_nil))))), ?_⟩
    walk_at "rd"
    intro t nt
    have s := Same.new (o := .tup [V.ty "list", V.ty "tuple"]) nt
    rcases ha with ha | ha
    · exact ⟨.ref a, t, [.ty "list", .ty "tuple"], .type "list", [.type "list", .type "tuple"], true, rfl, upd_same, .cons (.ty _) (.cons (.ty _) .nil), .base (.lst (s _ _ ha)), by
        exact kitAny_cons (b := true) (kit_ty (show kitB "list" "list" = some true from by decide +kernel)) (fun z => by cases z) (fun _ => rfl), k _ s⟩
    · exact ⟨.ref a, t, [.ty "list", .ty "tuple"], .type "tuple", [.type "list", .type "tuple"], true, rfl, upd_same, .cons (.ty _) (.cons (.ty _) .nil), .base (.tup (s _ _ ha)), by
        exact kitAny_cons (b := false) (kit_ty (show kitB "tuple" "list" = some false from by decide +kernel)) (fun _ => kitAny_cons (b := true) (kit_ty (show kitB "tuple" "tuple" = some true from by decide +kernel)) (fun z => by cases z) (fun _ => rfl)) (fun z => by cases z), k _ s⟩
/-! check_reach -/
def spChR (K : PySem.W.Frag) : Sp := fun vs H Q _ => ∃ a m1 m2, vs = [.ref a] ∧ H a = some (.tup [.int m1, .int m2]) ∧ m1 ≤ 3 ∧ m2 ≤ 3 ∧ Q .non H
theorem d_check_reach (T : Txt K mg) : Df P w K mg base 1 "check_reach" ["reach"] (spChR K) := by
  obtain ⟨mc, cr, _, _, u3, c3⟩ := T.cr
  refine T.S_check_reach.by sc_check_reach (fun vs H Q E h => ?_) (fun f cdv A outer s H vs Q E hr hgd h => ?_)
  · obtain ⟨a, m1, m2, rfl, _⟩ := h; rfl
  · obtain ⟨a, m1, m2, rfl, ha, l1, l2, k⟩ := h
    refine ⟨_, (pss_cons (ps_asg (pv 0) (pg_tup rfl (pgs_cons (pg_name (i := 1) sc_check_reach.nd rfl (by first | exact Or.inl rfl | exact Or.inr rfl)) (pgs_cons (pg_name (i := 2) sc_check_reach.nd rfl (by first | exact Or.inl rfl | exact Or.inr rfl)) pgs_nil))))
      (pss_cons (ps_if (pt_cmpR op_gt (pv 1) (ClX.pe_cval (pe_glob (v := .ref (He.ga K "Kind")) (by rfl) T.g_Kind rfl)) (nomark _)) (pss_one ps_never) pss_nil)
      (pss_one (ps_if (pt_cmpR op_gt (pv 2) (ClX.pe_cval (pe_glob (v := .ref (He.ga K "Kind")) (by rfl) T.g_Kind rfl)) (nomark _)) (pss_one ps_never) pss_nil)))), ?_⟩
    refine ⟨_, rfl, a, _, rfl, SqT.of ha, rfl, ?_⟩
    walk_at "rd"
    refine ite2 (fun c => ?_) (fun c => ?_)
    · have := of_decide_eq_true c
      exact absurd this (by omega)
    walk_at "rd"
    refine ite2 (fun c => ?_) (fun c => ?_)
    · have := of_decide_eq_true c
      exact absurd this (by omega)
    exact k
/-! reach_of -/
theorem ints_of {α : Type} {g : α → Int} {es : List α} {ys : List V} (hl : ys.length = es.length) (h : ∀ (i : Nat) y, ys[i]? = some y → ∃ e, es[i]? = some e ∧ y = .int (g e)) : ys = (es.map g).map .int := by
  apply List.ext_getElem?
  intro i
  rw [List.getElem?_map, List.getElem?_map]
  cases hy : ys[i]? with
  | none =>
    have : es.length ≤ i := by rw [← hl]; exact List.getElem?_eq_none_iff.mp hy
    rw [List.getElem?_eq_none this]; rfl
  | some y =>
    obtain ⟨e, he, rfl⟩ := h i y hy
    rw [he]; rfl
def IsMax (m : Int) (ns : List Int) : Prop := m ∈ ns ∧ ∀ y ∈ ns, y ≤ m
def spReach (K : PySem.W.Frag) : Sp := fun vs H Q _ => ∃ a xs es, vs = [.ref a] ∧ H a = some (.lst xs) ∧ EL H xs es ∧ 0 < es.length ∧ es.length ≤ 64 ∧
  ∀ p m1 m2 H', L2.Same H H' → H p = none → H' p = some (.tup [.int m1, .int m2]) → IsMax m1 (es.map (·.1)) → IsMax m2 (es.map (·.2.1)) → Q (.ref p) H'
theorem d_reach_of (T : Txt K mg) : Df P w K mg base 1 "reach_of" ["entries"] (spReach K) := by
  refine T.S_reach_of.by sc_reach_of (fun vs H Q E h => ?_) (fun f cdv A outer s H vs Q E hr hgd h => ?_)
  · obtain ⟨a, xs, es, rfl, _⟩ := h; rfl
  · obtain ⟨a, xs, es, rfl, ha, el, l0, l1, k⟩ := h
    refine ⟨_, (pss_one (ps_ret (pe_tup (pa_cons (pe_callB  (cr_max rfl) (by rfl) T.n_max (by decide +kernel) (pa_cons (pe_lc (own := [("entry", 1)]) rfl sc_reach_of.nd (pi_list (pv 0)) (blkOk_by (own := [("entry", 1)]) (N := ["entries", "entry"]) (sc := defScope s_reach_of) (by decide +kernel)) (fun _ _ _ _ _ => (pg_name (i := 1) sc_reach_of.nd rfl (by first | exact Or.inl rfl | exact Or.inr rfl))) (fun _ _ _ _ _ => pts_nil) (fun _ _ _ _ _ => (pe_callTy call_int1 (by rfl) T.n_int (by decide +kernel) (pa_cons (pe_ix  (ix_tupK (C := K) rfl) (pv 1) pe_int (fun _ _ => rfl)) pa_nil)))) pa_nil)) (pa_cons (pe_callB  (cr_max rfl) (by rfl) T.n_max (by decide +kernel) (pa_cons (pe_lc (own := [("entry", 1)]) rfl sc_reach_of.nd (pi_list (pv 0)) (blkOk_by (own := [("entry", 1)]) (N := ["entries", "entry"]) (sc := defScope s_reach_of) (by decide +kernel)) (fun _ _ _ _ _ => (pg_name (i := 1) sc_reach_of.nd rfl (by first | exact Or.inl rfl | exact Or.inr rfl))) (fun _ _ _ _ _ => pts_nil) (fun _ _ _ _ _ => (pe_callTy call_int1 (by rfl) T.n_int (by decide +kernel) (pa_cons (pe_ix  (ix_tupK (C := K) rfl) (pv 1) pe_int (fun _ _ => rfl)) pa_nil)))) pa_nil)) pa_nil))))), ?_⟩
    have ln := el.len
    refine ⟨_, rfl, a, rfl, ⟨_, SqL.of ha⟩, fun D nD => ?_⟩
    refine lc_pure (walk_list (xs := xs)) nD (by omega) (fun _ sm => SqL.of (sm _ _ ha)) (fun i y => ∃ e, es[i]? = some e ∧ y = .int e.1) (fun i x H4 H5 Kn Z hi sm y q => ?_) (fun H4 ys sm hD hl hr => ?_)
    · obtain ⟨rfl, hx⟩ := y
      obtain ⟨e, he, t, rfl, ht⟩ := el.at hx
      have ht' := sm _ _ ht
      walk_at "rd"
      exact q _ _ (Same.refl _) ⟨e, he, rfl⟩
    · obtain rfl := ints_of (hl.trans ln) hr
      refine ⟨D, es.map (·.1), rfl, SqL.of hD, by rw [List.length_map]; exact l0, fun m hm hle => ?_⟩
      refine ⟨_, rfl, a, rfl, ⟨_, SqL.of (sm _ _ ha)⟩, fun D2 nD2 => ?_⟩
      refine lc_pure (walk_list (xs := xs)) nD2 (by omega) (fun _ sm2 => SqL.of (sm2 _ _ (sm _ _ ha))) (fun i y => ∃ e, es[i]? = some e ∧ y = .int e.2.1) (fun i x H5 H6 Kn Z hi sm2 y q => ?_) (fun H5 ys sm2 hD2 hl2 hr2 => ?_)
      · obtain ⟨rfl, hx⟩ := y
        obtain ⟨e, he, t, rfl, ht⟩ := el.at hx
        have ht' := sm2 _ _ (sm _ _ ht)
        walk_at "rd"
        exact q _ _ (Same.refl _) ⟨e, he, rfl⟩
      · obtain rfl := ints_of (hl2.trans ln) hr2
        refine ⟨D2, es.map (·.2.1), rfl, SqL.of hD2, by rw [List.length_map]; exact l0, fun m2 hm2 hle2 => ?_⟩
        refine ⟨by show (2 : Nat) ≤ sizeLine; decide +kernel, fun p np => ?_⟩
        exact k p m m2 _ ((sm.trans sm2).trans (Same.new np)) ((sm.trans sm2).free np) upd_same ⟨hm, hle⟩ ⟨hm2, hle2⟩
end
end K11

set_option Elab.async false
set_option linter.all false
set_option maxRecDepth 100000
set_option maxHeartbeats 4000000
namespace K11
open PySem L2 Lay Own SrtO
local macro_rules | `(tactic| walk_at "ne") => `(tactic| first | assumption | (apply Ne.symm; assumption) | exact ne_of_none (by walk_at "look") (by assumption) | exact (ne_of_none (by walk_at "look") (by assumption)).symm)
local macro_rules | `(tactic| walk_at "look") => `(tactic| first | assumption | exact upd_same | (refine Eq.trans (upd_ne ?_) ?_; walk_at "ne"; walk_at "look"))
local macro_rules | `(tactic| walk_at "rds") => `(tactic| first | rfl | assumption | walk_at "look" | exact SqL.of (by walk_at "look") | exact SqT.of (by walk_at "look") | exact Or.inl (SqL.of (by walk_at "look")) | exact Or.inl (by assumption) | decide | omega | exact Nat.le_of_ble_eq_true rfl | exact Or.inr ⟨by decide, by decide⟩ | exact Or.inl ⟨by omega, by omega⟩ | exact ⟨by decide, by decide⟩)
local macro_rules | `(tactic| walk_at "rd1") => `(tactic| first | (apply Exists.intro) | (refine And.intro ?_ ?_; walk_at "rds") | (refine Or.inl ?_; apply Exists.intro; refine And.intro ?_ ?_; rfl))
local macro_rules | `(tactic| walk_at "rd") => `(tactic| repeat walk_at "rd1")
section
variable {P : Program} {w : World} {K : PySem.W.Frag} {mg : Str → Option Value} {base : Heap}
/-! check_entries -/
def EOk (e : Ent) : Prop := (-20 ≤ e.1 ∧ e.1 ≤ 20) ∧ (-20 ≤ e.2.1 ∧ e.2.1 ≤ 20) ∧ nameB e.2.2 = true ∧ e.2.2.length ≤ 1000 ∧ NmOk e
structure EsOk (es : List Ent) : Prop where
  l0 : 2 ≤ es.length
  l1 : es.length ≤ 6
  nd : es.Nodup
  ok : ∀ e ∈ es, EOk e
def spChk (K : PySem.W.Frag) : Sp := fun vs H Q _ => ∃ a xs es, vs = [.ref a] ∧ H a = some (.tup xs) ∧ EL H xs es ∧ EsOk es ∧ ∀ H', L2.Same H H' → Q .non H'
theorem d_check_entries (T : Txt K mg) : Df P w K mg base 4 "check_entries" ["entries"] (spChk K) := by
  obtain ⟨mc, cr, _, ⟨u2, c2⟩, _⟩ := T.cr
  have D_is_entry := d_is_entry (P := P) (w := w) (base := base) T
  refine T.S_check_entries.by sc_check_entries (fun vs H Q E h => ?_) (fun f cdv A outer s H vs Q E hr hgd h => ?_)
  · obtain ⟨a, xs, es, rfl, _⟩ := h; rfl
  · obtain ⟨a, xs, es, rfl, ha, el, ok, k⟩ := h
    refine ⟨_, (pss_cons (ps_if (PW.pt (pw_or (pt_cmpR op_lt (pe_callB call_len_seq (by rfl) T.n_len PySem.boot_len (pa_cons (pv 0) pa_nil)) (pe_con1 T.c_FEWEST_ENTRIES) (nomark _)) (pw_or1 (pt_cmpR op_gt (pe_callB call_len_seq (by rfl) T.n_len PySem.boot_len (pa_cons (pv 0) pa_nil)) (ClX.pe_cval (pe_glob (v := .ref (He.ga K "Kind")) (by rfl) T.g_Kind rfl)) (nomark _))))) (pss_one ps_never) pss_nil)
      (pss_one (ps_for PassesOwn.never rfl  (pi_enumT (by rfl) T.n_enumerate (pa_cons (pv 0) pa_nil)) (pg_tup rfl (pgs_cons (pg_name (i := 1) sc_check_entries.nd rfl (by first | exact Or.inl rfl | exact Or.inr rfl)) (pgs_cons (pg_name (i := 2) sc_check_entries.nd rfl (by first | exact Or.inl rfl | exact Or.inr rfl)) pgs_nil))) (pss_one (ps_if (PW.pt (pw_or (pt_not (pt_val (pe_own D_is_entry (hr.mono (by first | decide | omega)) hgd (pa_cons (pv 2) pa_nil)))) (pw_or1 (pt_cmpR  (op_inT (un66 hr)) (pv 2) (pe_slice sl_tup (pv 0) po_none (po_some (pv 1))) (by rfl))))) (pss_one ps_never) pss_nil))))), ?_⟩
    have ln := el.len
    have l0 := ok.l0
    have l1 := ok.l1
    refine ⟨_, rfl, a, xs, rfl, .inr (SqT.of ha), ?_⟩
    walk_at "rd"
    rw [decide_eq_false (show ¬ (xs.length : Int) < 2 by omega)]
    refine iteF ?_
    refine ⟨_, rfl, a, xs, rfl, .inr (SqT.of ha), ?_⟩
    walk_at "rd"
    rw [decide_eq_false (show ¬ (6 : Int) < (xs.length : Int) by omega)]
    refine iteF ?_
    refine ⟨_, rfl, a, xs, rfl, SqT.of ha, ?_⟩
    refine for_it walk_enumT (fun i σ H' => ∃ p q, σ = [some (.ref a), p, q] ∧ Same H H') ⟨_, _, rfl, Same.refl H⟩ (fun i σ H' _ ⟨p, q, e, s⟩ => SqT.of (s _ _ ha)) (fun i x σ H1 H2 hi ⟨p, q, e, s⟩ y => ?_) (fun σ H' ⟨p, q, e, s⟩ => k H' s)
    subst e
    obtain ⟨t, x1, y1, rfl, nT, rfl, e1, e2⟩ := y
    cases e1
    have s2 := Same.new (o := .tup [V.int (i : Int), y1]) nT
    refine ⟨t, _, rfl, SqT.of upd_same, rfl, ?_⟩
    walk_at "rd"
    obtain ⟨e, he, t2, rfl, ht2⟩ := el.at e2
    have s3 := s.trans s2
    have ht2' := s3 _ _ ht2
    obtain ⟨⟨b1, b2⟩, ⟨b3, b4⟩, nm, nl, no⟩ := ok.ok e (List.mem_of_getElem? he)
    refine ⟨.tup ht2', .inr ⟨t2, _, _, _, rfl, ht2', .int _, .int _, .str _ (by omega), fun H3 s4 => ?_⟩⟩
    have eb : (dB (.int e.1) && (dB (.int e.2.1) && nB (.str e.2.2))) = true := by
      show ((decide (-20 ≤ e.1) && decide (e.1 ≤ 20)) && ((decide (-20 ≤ e.2.1) && decide (e.2.1 ≤ 20)) && nameB e.2.2)) = true
      rw [decide_eq_true b1, decide_eq_true b2, decide_eq_true b3, decide_eq_true b4, nm]; rfl
    rw [eb]
    refine ⟨_, rfl, ?_⟩
    refine iteF ?_
    have s5 := s3.trans s4
    have sq : SqT K H3 a xs := SqT.of (s5 _ _ ha)
    walk_at "rd"
    refine ⟨?_, fun p2 n2 => ?_⟩
    · rw [HT.sIx_nat]
      intro z
      have := z.2
      omega
    rw [cut_to (by omega)]
    have s6 := Same.new (o := .tup (xs.take i)) n2
    have d1 : EntT H (.ref t2) e := ⟨t2, rfl, ht2⟩
    have nmA : ∀ f ∈ es, NmOk f := fun f hf => (ok.ok f hf).2.2.2.2
    have nmT : ∀ f ∈ es.take i, NmOk f := fun f hf => nmA f (List.mem_of_mem_take hf)
    refine ⟨_, _, (d1.same (s5.trans s6)).dp, .tup (SqT.of upd_same) ((el.take i).same (s5.trans s6)).dp, eD_sh no, eDs_sh nmT, ?_⟩
    rw [any_eD]
    have ni : ¬ e ∈ es.take i := fun hm => by
      obtain ⟨j, hj⟩ := List.mem_iff_getElem?.mp hm
      have hj' : j < i := by
        have := (List.getElem?_eq_some_iff.mp hj).1
        rw [List.length_take] at this
        omega
      rw [List.getElem?_take_of_lt hj'] at hj
      have := (List.getElem?_inj (List.getElem?_eq_some_iff.mp hj).1 ok.nd).mp (hj.trans he.symm)
      omega
    rw [decide_eq_false ni]
    refine ⟨_, rfl, ?_⟩
    refine iteF ?_
    exact ⟨_, _, rfl, s5.trans s6⟩
end
end K11

set_option Elab.async false
set_option linter.all false
set_option maxRecDepth 100000
set_option maxHeartbeats 4000000
namespace K11
open PySem L2 Lay Own SrtO
local macro_rules | `(tactic| walk_at "ne") => `(tactic| first | assumption | (apply Ne.symm; assumption) | exact ne_of_none (by walk_at "look") (by assumption) | exact (ne_of_none (by walk_at "look") (by assumption)).symm)
local macro_rules | `(tactic| walk_at "look") => `(tactic| first | assumption | exact upd_same | (refine Eq.trans (upd_ne ?_) ?_; walk_at "ne"; walk_at "look"))
local macro_rules | `(tactic| walk_at "rds") => `(tactic| first | rfl | assumption | walk_at "look" | exact SqL.of (by walk_at "look") | exact SqT.of (by walk_at "look") | exact Or.inl (SqL.of (by walk_at "look")) | exact Or.inl (by assumption) | decide | omega | exact Nat.le_of_ble_eq_true rfl | exact Or.inr ⟨by decide, by decide⟩ | exact Or.inl ⟨by omega, by omega⟩ | exact ⟨by decide, by decide⟩)
local macro_rules | `(tactic| walk_at "rd1") => `(tactic| first | (apply Exists.intro) | (refine And.intro ?_ ?_; walk_at "rds") | (refine Or.inl ?_; apply Exists.intro; refine And.intro ?_ ?_; rfl))
local macro_rules | `(tactic| walk_at "rd") => `(tactic| repeat walk_at "rd1")
section
variable {P : Program} {w : World} {K : PySem.W.Frag} {mg : Str → Option Value} {base : Heap}
/-! normed -/
def IsMin (m : Int) (ns : List Int) : Prop := m ∈ ns ∧ ∀ y ∈ ns, m ≤ y
/-- moved to the left and down -/
def mv (lo bo : Int) (e : Ent) : Ent := (e.1 - lo, e.2.1 - bo, e.2.2)
def Nrm (es fs : List Ent) : Prop := ∃ lo bo, IsMin lo (es.map (·.1)) ∧ IsMin bo (es.map (·.2.1)) ∧ fs.Perm (es.map (mv lo bo)) ∧ Sd entLt fs
def spNrm (K : PySem.W.Frag) : Sp := fun vs H Q _ => ∃ a xs es, vs = [.ref a] ∧ H a = some (.tup xs) ∧ EL H xs es ∧ 0 < es.length ∧ es.length ≤ 8 ∧
  ∀ p zs fs H', L2.Same H H' → H p = none → H' p = some (.lst zs) → EL H' zs fs → Nrm es fs → Q (.ref p) H'
theorem d_normed (T : Txt K mg) : Df P w K mg base 5 "normed" ["entries"] (spNrm K) := by
  have D_in_order := d_ord (P := P) (w := w) (base := base) T 3 (by decide)
  refine T.S_normed.by sc_normed (fun vs H Q E h => ?_) (fun f cdv A outer s H vs Q E hr hgd h => ?_)
  · obtain ⟨a, xs, es, rfl, _⟩ := h; rfl
  · obtain ⟨a, xs, es, rfl, ha, el, l0, l1, k⟩ := h
    refine ⟨_, (pss_cons (ps_set (i := 1) sc_normed.nd rfl (by first | exact Or.inl rfl | exact Or.inr rfl) (pe_callB  (cr_min rfl) (by rfl) T.n_min (by decide +kernel) (pa_cons (pe_lc (own := [("entry", 3)]) rfl sc_normed.nd (pi_tup (pv 0)) (blkOk_by (own := [("entry", 3)]) (N := ["entries", "low", "bottom", "entry", "across", "up", "name"]) (sc := defScope s_normed) (by decide +kernel)) (fun _ _ _ _ _ => (pg_name (i := 3) sc_normed.nd rfl (by first | exact Or.inl rfl | exact Or.inr rfl))) (fun _ _ _ _ _ => pts_nil) (fun _ _ _ _ _ => (pe_callTy call_int1 (by rfl) T.n_int (by decide +kernel) (pa_cons (pe_ix  (ix_tupK (C := K) rfl) (pv 3) pe_int (fun _ _ => rfl)) pa_nil)))) pa_nil)))
      (pss_cons (ps_set (i := 2) sc_normed.nd rfl (by first | exact Or.inl rfl | exact Or.inr rfl) (pe_callB  (cr_min rfl) (by rfl) T.n_min (by decide +kernel) (pa_cons (pe_lc (own := [("entry", 3)]) rfl sc_normed.nd (pi_tup (pv 0)) (blkOk_by (own := [("entry", 3)]) (N := ["entries", "low", "bottom", "entry", "across", "up", "name"]) (sc := defScope s_normed) (by decide +kernel)) (fun _ _ _ _ _ => (pg_name (i := 3) sc_normed.nd rfl (by first | exact Or.inl rfl | exact Or.inr rfl))) (fun _ _ _ _ _ => pts_nil) (fun _ _ _ _ _ => (pe_callTy call_int1 (by rfl) T.n_int (by decide +kernel) (pa_cons (pe_ix  (ix_tupK (C := K) rfl) (pv 3) pe_int (fun _ _ => rfl)) pa_nil)))) pa_nil)))
      (pss_one (ps_ret (pe_own D_in_order (hr.mono (by first | decide | omega)) hgd (pa_cons (pe_lc (own := [("across", 4), ("up", 5), ("name", 6)]) rfl sc_normed.nd (pi_tup (pv 0)) (blkOk_by (own := [("across", 4), ("up", 5), ("name", 6)]) (N := ["entries", "low", "bottom", "entry", "across", "up", "name"]) (sc := defScope s_normed) (by decide +kernel)) (fun _ _ _ _ _ => (pg_tupK (K := K) (n := 3) rfl rfl (pgs_cons (pg_name (i := 4) sc_normed.nd rfl (by first | exact Or.inl rfl | exact Or.inr rfl)) (pgs_cons (pg_name (i := 5) sc_normed.nd rfl (by first | exact Or.inl rfl | exact Or.inr rfl)) (pgs_cons (pg_name (i := 6) sc_normed.nd rfl (by first | exact Or.inl rfl | exact Or.inr rfl)) pgs_nil))))) (fun _ _ _ _ _ => pts_nil) (fun _ _ _ _ _ => (pe_tup (pa_cons (pe_op op_sub (pv 4) (pv 1)) (pa_cons (pe_op op_sub (pv 5) (pv 2)) (pa_cons (pv 6) pa_nil)))))) pa_nil)))))), ?_⟩
    have ln := el.len
    refine ⟨_, rfl, a, rfl, ⟨_, SqT.of ha⟩, fun D nD => ?_⟩
    refine lc_pure (walk_tup (xs := xs)) nD (by omega) (fun _ sm => SqT.of (sm _ _ ha)) (fun i y => ∃ e, es[i]? = some e ∧ y = .int e.1) (fun i x H4 H5 Kn Z hi sm y q => ?_) (fun H4 ys sm hD hl hr => ?_)
    · obtain ⟨rfl, hx⟩ := y
      obtain ⟨e, he, t, rfl, ht⟩ := el.at hx
      have ht' := sm _ _ ht
      walk_at "rd"
      exact q _ _ (Same.refl _) ⟨e, he, rfl⟩
    · obtain rfl := ints_of (hl.trans ln) hr
      refine ⟨D, es.map (·.1), rfl, SqL.of hD, by rw [List.length_map]; exact l0, fun lo hm hle => ?_⟩
      refine ⟨_, rfl, a, rfl, ⟨_, SqT.of (sm _ _ ha)⟩, fun D2 nD2 => ?_⟩
      refine lc_pure (walk_tup (xs := xs)) nD2 (by omega) (fun _ sm2 => SqT.of (sm2 _ _ (sm _ _ ha))) (fun i y => ∃ e, es[i]? = some e ∧ y = .int e.2.1) (fun i x H5 H6 Kn Z hi sm2 y q => ?_) (fun H5 ys sm2 hD2 hl2 hr2 => ?_)
      · obtain ⟨rfl, hx⟩ := y
        obtain ⟨e, he, t, rfl, ht⟩ := el.at hx
        have ht' := sm2 _ _ (sm _ _ ht)
        walk_at "rd"
        exact q _ _ (Same.refl _) ⟨e, he, rfl⟩
      · obtain rfl := ints_of (hl2.trans ln) hr2
        refine ⟨D2, es.map (·.2.1), rfl, SqL.of hD2, by rw [List.length_map]; exact l0, fun bo hm2 hle2 => ?_⟩
        have s2 := sm.trans sm2
        refine ⟨_, rfl, a, rfl, ⟨_, SqT.of (s2 _ _ ha)⟩, fun D3 nD3 => ?_⟩
        refine lc_depI (walk_tup (xs := xs)) nD3 (by omega) (fun _ sm3 => SqT.of (sm3 _ _ (s2 _ _ ha))) (fun i H v => ∃ e, es[i]? = some e ∧ EntT H v (mv lo bo e)) (fun i H H' v s ⟨e, he, h⟩ => ⟨e, he, h.same s⟩) (fun i H xs ys v hD ⟨e, he, h⟩ => ⟨e, he, h.mut hD⟩) (fun i x H6 H7 Kn Z hi sm3 _ y q => ?_) (fun H6 ys sm3 hD3 hl3 hr3 => ?_)
        · obtain ⟨rfl, hx⟩ := y
          obtain ⟨e, he, t, rfl, ht⟩ := el.at hx
          have ht' := sm3 _ _ (s2 _ _ ht)
          refine ⟨t, _, rfl, SqT.of ht', rfl, ?_⟩
          walk_at "rd"
          exact fun p np => q _ _ (Same.new np) ⟨e, he, p, rfl, upd_same⟩
        · have s3 := s2.trans sm3
          have el3 : EL H6 ys (es.map (mv lo bo)) := el_of (hl3.trans ln) hr3
          have O : Swo fun x y => entLt (entOf H6 x) (entOf H6 y) := Swo.on tot_ent _
          refine ⟨D3, ys, _, rfl, SqL.of hD3, O, fun H7 s x hx y hy => .ent ((el3.ents x hx).same s) ((el3.ents y hy).same s), by omega, fun zs p H7 s4 np hp pm sd => ?_⟩
          obtain ⟨el4, pm4⟩ := el3.perm pm
          refine k p zs _ H7 (s3.trans s4) (s3.free np) hp (el4.same s4) ⟨lo, bo, ⟨hm, hle⟩, ⟨hm2, hle2⟩, pm4, ?_⟩
          exact List.Pairwise.map _ (fun a b h => h) sd
end
end K11

set_option Elab.async false
set_option linter.all false
set_option maxRecDepth 100000
set_option maxHeartbeats 4000000
namespace K11
open PySem L2 Lay Own SrtO
local macro_rules | `(tactic| walk_at "ne") => `(tactic| first | assumption | (apply Ne.symm; assumption) | exact ne_of_none (by walk_at "look") (by assumption) | exact (ne_of_none (by walk_at "look") (by assumption)).symm)
local macro_rules | `(tactic| walk_at "look") => `(tactic| first | assumption | exact upd_same | (refine Eq.trans (upd_ne ?_) ?_; walk_at "ne"; walk_at "look"))
local macro_rules | `(tactic| walk_at "rds") => `(tactic| first | rfl | assumption | walk_at "look" | exact SqL.of (by walk_at "look") | exact SqT.of (by walk_at "look") | exact Or.inl (SqL.of (by walk_at "look")) | exact Or.inl (by assumption) | decide | omega | exact Nat.le_of_ble_eq_true rfl | exact Or.inr ⟨by decide, by decide⟩ | exact Or.inl ⟨by omega, by omega⟩ | exact ⟨by decide, by decide⟩)
local macro_rules | `(tactic| walk_at "rd1") => `(tactic| first | (apply Exists.intro) | (refine And.intro ?_ ?_; walk_at "rds") | (refine Or.inl ?_; apply Exists.intro; refine And.intro ?_ ?_; rfl))
local macro_rules | `(tactic| walk_at "rd") => `(tactic| repeat walk_at "rd1")
section
variable {P : Program} {w : World} {K : PySem.W.Frag} {mg : Str → Option Value} {base : Heap}
/-! methods, by their bodies -/
def MDf (P : Program) (w : World) (K : PySem.W.Frag) (mg : Str → Option Value) (base : Heap) (k : Nat) (g : Addr) (ps : List Str) (sp : Sp) : Prop := ∃ fd, FnG P w K mg base CX0 k g fd ps sp ∧ Binds K fd ps [] ∧ Kw1 fd ps
theorem MDf.fp {k : Nat} {g : Addr} {ps : List Str} {sp : Sp} (D : MDf P w K mg base k g ps sp) : FnP P w K mg base k g sp := by
  obtain ⟨fd, F, b, _⟩ := D
  exact .ofG F b
theorem Ms.by {m qual : Str} {st : Stmt} {g : Addr} {ps N : List Str} {k : Nat} {sp : Sp} (S : Ms K m qual st g ps) (sc : FnScope N ps (defScope st)) (len : ∀ vs H Q E, sp vs H Q E → vs.length = ps.length)
    (hbody : ∀ (f : Addr) (cdv : Value) (A : Around) (outer : List Env) (s : Shared) (H : Hp) (vs : List V) (Q : VK) (E : XK),
      Room k (A.deeper (PyProof.Rows.envOfC qual (defScope st) s.heap.objs.size f cdv)) → A.guards = some [] → sp vs H Q E →
      ∃ t, PSs (cxOf CX0 P w K mg base N qual (defScope st) f cdv A outer s H E).nox (defBody st) t ∧ t { nx := fun _ H' => Q .non H', rt := Q } (L2.start N vs) H) : MDf P w K mg base (k + 1) g ps sp := by
  obtain ⟨fd, F, b⟩ := S
  exact ⟨fd, okG F sc len (hbody g), b⟩
/-! making a kind -/
def KindAt (K : PySem.W.Frag) (H : Hp) (a : Addr) (fs : List Ent) (m1 m2 : Int) : Prop := ∃ dx t r zs, H a = some (.ins (kc K) dx [("_entries", .ref t), ("_reach", .ref r)]) ∧ H dx = some (.own a) ∧ H t = some (.tup zs) ∧ EL H zs fs ∧ H r = some (.tup [.int m1, .int m2])
structure Kn (es fs : List Ent) (m1 m2 : Int) : Prop where
  n : Nrm es fs
  x : IsMax m1 (fs.map (·.1))
  y : IsMax m2 (fs.map (·.2.1))
def spIni (K : PySem.W.Frag) : Sp := fun vs H Q _ => ∃ x dx p xs es, vs = [.ref x, .ref p] ∧ H x = some (.ins (kc K) dx []) ∧ H dx = some (.own x) ∧ H p = some (.tup xs) ∧ EL H xs es ∧ EsOk es ∧ (∀ fs m1 m2, Kn es fs m1 m2 → m1 ≤ 3 ∧ m2 ≤ 3) ∧
  ∀ fs m1 m2 H', (∀ b o, H b = some o → b ≠ x → H' b = some o) → KindAt K H' x fs m1 m2 → Kn es fs m1 m2 → Q .non H'
theorem d_init (T : Txt K mg) : FnP P w K mg base 7 (He.ma K (kc K) "__init__") (fun vs H Q E => ∃ ws rest, vs = ws ++ rest ∧ ws.length = ["self"].length ∧ rest.length ≤ sizeLine ∧ ∀ p, H p = Option.none → spIni K (ws ++ [V.ref p]) (upd H p (.tup rest)) Q E) := by
  have D_check_entries := d_check_entries (P := P) (w := w) (base := base) T
  have D_normed := d_normed (P := P) (w := w) (base := base) T
  have D_reach_of := d_reach_of (P := P) (w := w) (base := base) T
  have D_check_reach := d_check_reach (P := P) (w := w) (base := base) T
  obtain ⟨fd, F⟩ := T.M___init__
  obtain ⟨oc, od, kV, doc, pm, an, cdv, ct, osl, rfl, lk, hcd⟩ := F.ex
  refine fnP_star (ps := ["self"]) (pv := "entries") lk hcd sc_Kind___init (fun us rest hl => ?_) (fun A outer s H vs Q E hr hgd h => ?_)
  · match us, hl with
    | [u], _ =>
      cases rest with
      | nil => rfl
      | cons v r => rfl
  · obtain ⟨x, dx, p, xs, es, rfl, hx, hdx, hp, el, ok, le, k⟩ := h
    refine ⟨_, ((pss_cons (ps_expr (pe_own D_check_entries (hr.mono (by first | decide | omega)) hgd (pa_cons (pv 1) pa_nil)))
      (pss_cons (ps_set (i := 2) sc_Kind___init.nd rfl (by first | exact Or.inl rfl | exact Or.inr rfl) (pe_own D_normed (hr.mono (by first | decide | omega)) hgd (pa_cons (pv 1) pa_nil)))
      (pss_cons (ps_set (i := 3) sc_Kind___init.nd rfl (by first | exact Or.inl rfl | exact Or.inr rfl) (pe_own D_reach_of (hr.mono (by first | decide | omega)) hgd (pa_cons (pv 2) pa_nil)))
      (pss_cons (ps_expr (pe_own D_check_reach (hr.mono (by first | decide | omega)) hgd (pa_cons (pv 3) pa_nil)))
      (pss_cons (ps_fld (pv 0) (pe_callTy call_tuple_of (by rfl) T.n_tuple (by decide +kernel) (pa_cons (pv 2) pa_nil)) rfl)
      (pss_one (ps_fld (pv 0) (pv 3) rfl)))))))).nox, ?_⟩
    have ln := el.len
    have l0 := ok.l0
    have l1 := ok.l1
    refine ⟨_, rfl, p, xs, es, rfl, hp, el, ok, fun H1 s1 => ?_⟩
    refine ⟨_, rfl, p, xs, es, rfl, s1 _ _ hp, el.same s1, by omega, by omega, fun o zs fs H2 s2 n2 h2 el2 nr => ?_⟩
    have lf : fs.length = es.length := by
      obtain ⟨_, _, _, _, pm, _⟩ := nr
      rw [pm.length_eq, List.length_map]
    refine ⟨_, rfl, o, zs, fs, rfl, h2, el2, by omega, by omega, fun r m1 m2 H3 s3 n3 h3 mx my => ?_⟩
    have kn : Kn es fs m1 m2 := ⟨nr, mx, my⟩
    have s13 := s1.trans (s2.trans s3)
    refine ⟨_, rfl, r, m1, m2, rfl, h3, (le _ _ _ kn).1, (le _ _ _ kn).2, ?_⟩
    refine ⟨_, rfl, o, zs, rfl, .inl ⟨SqL.of (s3 _ _ h2), fun t nt => ?_⟩⟩
    have st := Same.new (o := .tup zs) nt
    refine ⟨_, rfl, x, kc K, dx, [], rfl, st _ _ (s13 _ _ hx), T.cls, T.no_entries, by decide, ?_⟩
    refine ⟨_, rfl, _, rfl, x, kc K, dx, _, rfl, upd_same, T.cls, T.no_reach, (show (1 : Nat) < 1000 by decide), ?_⟩
    have nx : ∀ b u, H3 b = some u → b ≠ x → upd (upd (upd H3 t (.tup zs)) x (.ins (kc K) dx (putF "_entries" (.ref t) []))) x (.ins (kc K) dx (putF "_reach" (.ref r) (putF "_entries" (.ref t) []))) b = some u := fun b u hb ne => by
      rw [upd_ne ne, upd_ne ne]; exact st _ _ hb
    have ntx : t ≠ x := fun z => by
      subst z
      rw [s13 _ _ hx] at nt; cases nt
    have hx3 := s13 _ _ hx
    have nofo : ∀ b u, H3 b = some (.tup u) → b ≠ x := fun b u hb z => by
      subst z; rw [hx3] at hb; cases hb
    have ndx : dx ≠ x := fun z => by
      subst z; rw [hdx] at hx; cases hx
    refine k fs m1 m2 _ (fun b u hb ne => nx _ _ (s13 _ _ hb) ne) ⟨dx, t, r, zs, upd_same, nx _ _ (s13 _ _ hdx) ndx, ?_, ?_, nx _ _ h3 (nofo _ _ h3)⟩ kn
    · rw [upd_ne ntx, upd_ne ntx]; exact upd_same
    · refine .of_at (el2.len) fun i z e hz he => ?_
      obtain ⟨e', he', q⟩ := el2.at hz
      rw [he] at he'; cases he'
      obtain ⟨tt, rfl, ht⟩ := q.same s3
      exact ⟨tt, rfl, nx _ _ ht (nofo _ _ ht)⟩
end
end K11

set_option Elab.async false
set_option linter.all false
set_option maxRecDepth 100000
set_option maxHeartbeats 4000000
namespace K11
open PySem L2 Lay Own SrtO
local macro_rules | `(tactic| walk_at "ne") => `(tactic| first | assumption | (apply Ne.symm; assumption) | exact ne_of_none (by walk_at "look") (by assumption) | exact (ne_of_none (by walk_at "look") (by assumption)).symm)
local macro_rules | `(tactic| walk_at "look") => `(tactic| first | assumption | exact upd_same | (refine Eq.trans (upd_ne ?_) ?_; walk_at "ne"; walk_at "look"))
local macro_rules | `(tactic| walk_at "rds") => `(tactic| first | rfl | assumption | walk_at "look" | exact SqL.of (by walk_at "look") | exact SqT.of (by walk_at "look") | exact Or.inl (SqL.of (by walk_at "look")) | exact Or.inl (by assumption) | decide | omega | exact Nat.le_of_ble_eq_true rfl | exact Or.inr ⟨by decide, by decide⟩ | exact Or.inl ⟨by omega, by omega⟩ | exact ⟨by decide, by decide⟩)
local macro_rules | `(tactic| walk_at "rd1") => `(tactic| first | (apply Exists.intro) | (refine And.intro ?_ ?_; walk_at "rds") | (refine Or.inl ?_; apply Exists.intro; refine And.intro ?_ ?_; rfl))
local macro_rules | `(tactic| walk_at "rd") => `(tactic| repeat walk_at "rd1")
section
variable {P : Program} {w : World} {K : PySem.W.Frag} {mg : Str → Option Value} {base : Heap}
/-! of -/
def spOf (K : PySem.W.Frag) : Sp := fun vs H Q _ => ∃ a xs es, vs = [.ref a] ∧ (H a = some (.lst xs) ∨ H a = some (.tup xs)) ∧ EL H xs es ∧ EsOk es ∧ (∀ fs m1 m2, Kn es fs m1 m2 → m1 ≤ 3 ∧ m2 ≤ 3) ∧
  ∀ x fs m1 m2 H', L2.Same H H' → H x = none → KindAt K H' x fs m1 m2 → Kn es fs m1 m2 → Q (.ref x) H'
theorem d_of (T : Txt K mg) : MDf P w K mg base 9 (Kd.st K "of") ["entries"] (spOf K) := by
  have D_is_list := d_is_list (P := P) (w := w) (base := base) T
  refine T.M_of.by sc_Kind_of (fun vs H Q E h => ?_) (fun f cdv A outer s H vs Q E hr hgd h => ?_)
  · obtain ⟨a, xs, es, rfl, _⟩ := h; rfl
  · obtain ⟨a, xs, es, rfl, ha, el, ok, le, k⟩ := h
    refine ⟨_, (pss_cons (ps_if (pt_not (pt_val (pe_own D_is_list (hr.mono (by first | decide | omega)) hgd (pa_cons (pv 0) pa_nil)))) (pss_one ps_never) pss_nil)
      (pss_one (ps_ret (pe_makeS T.maker (d_init T) (hr.mono (by decide)) hgd T.g_Kind (pv 0))))), ?_⟩
    have ln := el.len
    have l1 := ok.l1
    refine ⟨_, rfl, a, xs, rfl, ha, fun H1 s1 => ?_⟩
    refine ⟨_, rfl, ?_⟩
    refine iteF ?_
    refine ⟨_, rfl, a, xs, rfl, ?_, fun x dx nx nd ne => ?_⟩
    · rcases ha with ha | ha
      · exact .inr (SqL.of (s1 _ _ ha))
      · exact .inl (SqT.of (s1 _ _ ha))
    refine ⟨[.ref x], xs, rfl, rfl, Nat.le_trans (m := 6) (by omega) (by decide), fun p np => ?_⟩
    have s2 : L2.Same H1 (upd (upd H1 dx (.own x)) x (.ins (kc K) dx [])) := Same.made nx nd fun b o e _ => e
    have s3 := Same.new (o := .tup xs) np
    have s4 := s1.trans (s2.trans s3)
    refine ⟨x, dx, p, xs, es, rfl, s3 _ _ upd_same, s3 _ _ ?_, upd_same, el.same s4, ok, le, fun fs m1 m2 H' keep kd kn => ?_⟩
    · rw [upd_ne ne]; exact upd_same
    · refine ⟨rfl, k x fs m1 m2 H' (fun b o hb => ?_) (s1.free nx) kd kn⟩
      exact keep b o (s4 _ _ hb) fun z => by
        subst z
        rw [s1 _ _ hb] at nx
        cases nx
end
end K11

set_option Elab.async false
set_option linter.all false
set_option maxRecDepth 100000
set_option maxHeartbeats 4000000
namespace K11
open PySem L2 Lay Own SrtO
local macro_rules | `(tactic| walk_at "ne") => `(tactic| first | assumption | (apply Ne.symm; assumption) | exact ne_of_none (by walk_at "look") (by assumption) | exact (ne_of_none (by walk_at "look") (by assumption)).symm)
local macro_rules | `(tactic| walk_at "look") => `(tactic| first | assumption | exact upd_same | (refine Eq.trans (upd_ne ?_) ?_; walk_at "ne"; walk_at "look"))
local macro_rules | `(tactic| walk_at "rds") => `(tactic| first | rfl | assumption | walk_at "look" | exact SqL.of (by walk_at "look") | exact SqT.of (by walk_at "look") | exact Or.inl (SqL.of (by walk_at "look")) | exact Or.inl (by assumption) | decide | omega | exact Nat.le_of_ble_eq_true rfl | exact Or.inr ⟨by decide, by decide⟩ | exact Or.inl ⟨by omega, by omega⟩ | exact ⟨by decide, by decide⟩)
local macro_rules | `(tactic| walk_at "rd1") => `(tactic| first | (apply Exists.intro) | (refine And.intro ?_ ?_; walk_at "rds") | (refine Or.inl ?_; apply Exists.intro; refine And.intro ?_ ?_; rfl))
local macro_rules | `(tactic| walk_at "rd") => `(tactic| repeat walk_at "rd1")
section
variable {P : Program} {w : World} {K : PySem.W.Frag} {mg : Str → Option Value} {base : Heap}
/-! simple methods -/
def spFld (K : PySem.W.Frag) : Sp := fun vs H Q _ => ∃ a fs m1 m2, vs = [.ref a] ∧ KindAt K H a fs m1 m2 ∧ ∀ r, H r = some (.tup [.int m1, .int m2]) → Q (.ref r) H
theorem d_reach (T : Txt K mg) : MDf P w K mg base 1 (Kd.pr K "reach") ["self"] (spFld K) := by
  refine T.M_reach.by sc_Kind_reach (fun vs H Q E h => ?_) (fun f cdv A outer s H vs Q E hr hgd h => ?_)
  · obtain ⟨a, fs, m1, m2, rfl, _⟩ := h; rfl
  · obtain ⟨a, fs, m1, m2, rfl, ⟨dx, t, r, zs, ha, hdx, ht, el, hrr⟩, k⟩ := h
    refine ⟨_, (pss_one (ps_ret (pe_fld (pv 0) rfl))), ?_⟩
    refine ⟨_, rfl, a, kc K, dx, _, _, rfl, ha, T.cls, T.no_reach, rfl, ?_⟩
    exact k r hrr
def spFlat (K : PySem.W.Frag) : Sp := fun vs H Q _ => ∃ a fs m1 m2, vs = [.ref a] ∧ KindAt K H a fs m1 m2 ∧ Q (.bl (decide (m2 = 0))) H
theorem d_is_flat (T : Txt K mg) : MDf P w K mg base 1 (Kd.pr K "is_flat") ["self"] (spFlat K) := by
  refine T.M_is_flat.by sc_Kind_is_flat (fun vs H Q E h => ?_) (fun f cdv A outer s H vs Q E hr hgd h => ?_)
  · obtain ⟨a, fs, m1, m2, rfl, _⟩ := h; rfl
  · obtain ⟨a, fs, m1, m2, rfl, ⟨dx, t, r, zs, ha, hdx, ht, el, hrr⟩, k⟩ := h
    refine ⟨_, (pss_one (ps_ret (pe_cmpR op_eq (pe_ix ix_tup (pe_fld (pv 0) rfl) pe_int (fun _ _ => rfl)) pe_int (nomark _)))), ?_⟩
    refine ⟨_, rfl, a, kc K, dx, _, _, rfl, ha, T.cls, T.no_reach, rfl, ?_⟩
    refine ⟨r, _, _, _, rfl, rfl, SqT.of hrr, rfl, ?_⟩
    refine ⟨rfl, ?_⟩
    have e : decide (V.int m2 = V.int 0) = decide (m2 = 0) := by
      by_cases z : m2 = 0
      · rw [decide_eq_true z, z]; rfl
      · rw [decide_eq_false z]; exact decide_eq_false fun q => z (V.int.inj q)
    rw [e]; exact k
def spKEn (K : PySem.W.Frag) : Sp := fun vs H Q _ => ∃ a fs m1 m2, vs = [.ref a] ∧ KindAt K H a fs m1 m2 ∧ ∀ p zs H', L2.Same H H' → H p = none → H' p = some (.lst zs) → EL H' zs fs → Q (.ref p) H'
theorem d_entries (T : Txt K mg) : MDf P w K mg base 1 (He.ma K (kc K) "entries") ["self"] (spKEn K) := by
  refine T.M_entries.by sc_Kind_entries (fun vs H Q E h => ?_) (fun f cdv A outer s H vs Q E hr hgd h => ?_)
  · obtain ⟨a, fs, m1, m2, rfl, _⟩ := h; rfl
  · obtain ⟨a, fs, m1, m2, rfl, ⟨dx, t, r, zs, ha, hdx, ht, el, hrr⟩, k⟩ := h
    refine ⟨_, (pss_one (ps_ret (pe_callTy call_list_of (by rfl) T.n_list (by decide +kernel) (pa_cons (pe_fld (pv 0) rfl) pa_nil)))), ?_⟩
    refine ⟨_, rfl, a, kc K, dx, _, _, rfl, ha, T.cls, T.no_entries, rfl, ?_⟩
    refine ⟨t, zs, rfl, .inr (SqT.of ht), fun p np => ?_⟩
    have s := Same.new (o := .lst zs) np
    exact k p zs _ s np upd_same (el.same s)
def spLen (K : PySem.W.Frag) : Sp := fun vs H Q _ => ∃ a fs m1 m2, vs = [.ref a] ∧ KindAt K H a fs m1 m2 ∧ Q (.int (fs.length : Nat)) H
theorem d_len (T : Txt K mg) : MDf P w K mg base 1 (He.ma K (kc K) "__len__") ["self"] (spLen K) := by
  refine T.M___len__.by sc_Kind___len (fun vs H Q E h => ?_) (fun f cdv A outer s H vs Q E hr hgd h => ?_)
  · obtain ⟨a, fs, m1, m2, rfl, _⟩ := h; rfl
  · obtain ⟨a, fs, m1, m2, rfl, ⟨dx, t, r, zs, ha, hdx, ht, el, hrr⟩, k⟩ := h
    refine ⟨_, (pss_one (ps_ret (pe_callB call_len_seq (by rfl) T.n_len PySem.boot_len (pa_cons (pe_fld (pv 0) rfl) pa_nil)))), ?_⟩
    refine ⟨_, rfl, a, kc K, dx, _, _, rfl, ha, T.cls, T.no_entries, rfl, ?_⟩
    refine ⟨t, zs, rfl, .inr (SqT.of ht), ?_⟩
    rw [el.len]; exact k
end
end K11

set_option Elab.async false
set_option linter.all false
set_option maxRecDepth 100000
set_option maxHeartbeats 4000000
namespace K11
open PySem L2 Lay Own SrtO
local macro_rules | `(tactic| walk_at "ne") => `(tactic| first | assumption | (apply Ne.symm; assumption) | exact ne_of_none (by walk_at "look") (by assumption) | exact (ne_of_none (by walk_at "look") (by assumption)).symm)
local macro_rules | `(tactic| walk_at "look") => `(tactic| first | assumption | exact upd_same | (refine Eq.trans (upd_ne ?_) ?_; walk_at "ne"; walk_at "look"))
local macro_rules | `(tactic| walk_at "rds") => `(tactic| first | rfl | assumption | walk_at "look" | exact SqL.of (by walk_at "look") | exact SqT.of (by walk_at "look") | exact Or.inl (SqL.of (by walk_at "look")) | exact Or.inl (by assumption) | decide | omega | exact Nat.le_of_ble_eq_true rfl | exact Or.inr ⟨by decide, by decide⟩ | exact Or.inl ⟨by omega, by omega⟩ | exact ⟨by decide, by decide⟩)
local macro_rules | `(tactic| walk_at "rd1") => `(tactic| first | (apply Exists.intro) | (refine And.intro ?_ ?_; walk_at "rds") | (refine Or.inl ?_; apply Exists.intro; refine And.intro ?_ ?_; rfl))
local macro_rules | `(tactic| walk_at "rd") => `(tactic| repeat walk_at "rd1")
section
variable {P : Program} {w : World} {K : PySem.W.Frag} {mg : Str → Option Value} {base : Heap}
/-! mirrored, turned -/
def fMi (m1 : Int) (e : Ent) : Ent := (m1 - e.1, e.2.1, e.2.2)
def fTu (e : Ent) : Ent := (e.2.1, e.1, e.2.2)
def spMi (K : PySem.W.Frag) (g : Int → Ent → Ent) : Sp := fun vs H Q _ => ∃ a fs m1 m2, vs = [.ref a] ∧ KindAt K H a fs m1 m2 ∧ EsOk (fs.map (g m1)) ∧ (∀ gs n1 n2, Kn (fs.map (g m1)) gs n1 n2 → n1 ≤ 3 ∧ n2 ≤ 3) ∧
  ∀ x gs n1 n2 H', L2.Same H H' → H x = none → KindAt K H' x gs n1 n2 → Kn (fs.map (g m1)) gs n1 n2 → Q (.ref x) H'
theorem d_mirrored (T : Txt K mg) : MDf P w K mg base 10 (He.ma K (kc K) "mirrored") ["self"] (spMi K fMi) := by
  obtain ⟨mc, cr, ⟨p, sta⟩, _⟩ := T.cr
  refine T.M_mirrored.by sc_Kind_mirrored (fun vs H Q E h => ?_) (fun f cdv A outer s H vs Q E hr hgd h => ?_)
  · obtain ⟨a, fs, m1, m2, rfl, _⟩ := h; rfl
  · obtain ⟨a, fs, m1, m2, rfl, ⟨dx, t, r, zs, ha, hdx, ht, el, hrr⟩, ok, le, k⟩ := h
    refine ⟨_, (pss_cons (ps_set (i := 1) sc_Kind_mirrored.nd rfl (by first | exact Or.inl rfl | exact Or.inr rfl) (pe_ix ix_tup (pe_fld (pv 0) rfl) pe_int (fun _ _ => rfl)))
      (pss_one (ps_ret (pe_staP (pe_glob (v := .ref (He.ga K "Kind")) (by rfl) T.g_Kind rfl) cr sta (d_of T).fp (hr.mono (by first | decide | omega)) hgd (pa_cons (pe_lc (own := [("across", 2), ("up", 3), ("name", 4)]) rfl sc_Kind_mirrored.nd (pi_tup (pe_fld (pv 0) rfl)) (blkOk_by (own := [("across", 2), ("up", 3), ("name", 4)]) (N := ["self", "width", "across", "up", "name"]) (sc := defScope s_Kind_mirrored) (by decide +kernel)) (fun _ _ _ _ _ => (pg_tupK (K := K) (n := 3) rfl rfl (pgs_cons (pg_name (i := 2) sc_Kind_mirrored.nd rfl (by first | exact Or.inl rfl | exact Or.inr rfl)) (pgs_cons (pg_name (i := 3) sc_Kind_mirrored.nd rfl (by first | exact Or.inl rfl | exact Or.inr rfl)) (pgs_cons (pg_name (i := 4) sc_Kind_mirrored.nd rfl (by first | exact Or.inl rfl | exact Or.inr rfl)) pgs_nil))))) (fun _ _ _ _ _ => pts_nil) (fun _ _ _ _ _ => (pe_tup (pa_cons (pe_op op_sub (pv 1) (pv 2)) (pa_cons (pv 3) (pa_cons (pv 4) pa_nil)))))) pa_nil))))), ?_⟩
    have ln := el.len
    have l1 := ok.l1
    rw [List.length_map] at l1
    refine ⟨_, rfl, a, kc K, dx, _, _, rfl, ha, T.cls, T.no_reach, rfl, ?_⟩
    refine ⟨r, _, _, _, rfl, rfl, SqT.of hrr, rfl, ?_⟩
    refine ⟨rfl, _, rfl, a, kc K, dx, _, _, rfl, ha, T.cls, T.no_entries, rfl, t, rfl, ⟨_, SqT.of ht⟩, fun D nD => ?_⟩
    refine lc_depI (walk_tup (xs := zs)) nD (by omega) (fun _ sm => SqT.of (sm _ _ ht)) (fun i H v => ∃ e, fs[i]? = some e ∧ EntT H v (fMi m1 e)) (fun i H H' v s ⟨e, he, h⟩ => ⟨e, he, h.same s⟩) (fun i H xs ys v hD ⟨e, he, h⟩ => ⟨e, he, h.mut hD⟩) (fun i x H6 H7 Kn Z hi sm _ y q => ?_) (fun H6 ys sm hD hl hr3 => ?_)
    · obtain ⟨rfl, hx⟩ := y
      obtain ⟨e, he, u, rfl, hu⟩ := el.at hx
      have hu' := sm _ _ hu
      refine ⟨u, _, rfl, SqT.of hu', rfl, ?_⟩
      walk_at "rd"
      exact fun p np => q _ _ (Same.new np) ⟨e, he, p, rfl, upd_same⟩
    · have el3 : EL H6 ys (fs.map (fMi m1)) := el_of (hl.trans ln) hr3
      exact ⟨D, ys, _, rfl, .inl hD, el3, ok, le, fun x gs n1 n2 H' s nx kd kn => k x gs n1 n2 H' (sm.trans s) (sm.free nx) kd kn⟩
theorem d_turned (T : Txt K mg) : MDf P w K mg base 10 (He.ma K (kc K) "turned") ["self"] (spMi K fun _ => fTu) := by
  obtain ⟨mc, cr, ⟨p, sta⟩, _⟩ := T.cr
  refine T.M_turned.by sc_Kind_turned (fun vs H Q E h => ?_) (fun f cdv A outer s H vs Q E hr hgd h => ?_)
  · obtain ⟨a, fs, m1, m2, rfl, _⟩ := h; rfl
  · obtain ⟨a, fs, m1, m2, rfl, ⟨dx, t, r, zs, ha, hdx, ht, el, hrr⟩, ok, le, k⟩ := h
    refine ⟨_, (pss_one (ps_ret (pe_staP (pe_glob (v := .ref (He.ga K "Kind")) (by rfl) T.g_Kind rfl) cr sta (d_of T).fp (hr.mono (by first | decide | omega)) hgd (pa_cons (pe_lc (own := [("across", 1), ("up", 2), ("name", 3)]) rfl sc_Kind_turned.nd (pi_tup (pe_fld (pv 0) rfl)) (blkOk_by (own := [("across", 1), ("up", 2), ("name", 3)]) (N := ["self", "across", "up", "name"]) (sc := defScope s_Kind_turned) (by decide +kernel)) (fun _ _ _ _ _ => (pg_tupK (K := K) (n := 3) rfl rfl (pgs_cons (pg_name (i := 1) sc_Kind_turned.nd rfl (by first | exact Or.inl rfl | exact Or.inr rfl)) (pgs_cons (pg_name (i := 2) sc_Kind_turned.nd rfl (by first | exact Or.inl rfl | exact Or.inr rfl)) (pgs_cons (pg_name (i := 3) sc_Kind_turned.nd rfl (by first | exact Or.inl rfl | exact Or.inr rfl)) pgs_nil))))) (fun _ _ _ _ _ => pts_nil) (fun _ _ _ _ _ => (pe_tup (pa_cons (pv 2) (pa_cons (pv 1) (pa_cons (pv 3) pa_nil)))))) pa_nil)))), ?_⟩
    have ln := el.len
    have l1 := ok.l1
    rw [List.length_map] at l1
    refine ⟨rfl, _, rfl, a, kc K, dx, _, _, rfl, ha, T.cls, T.no_entries, rfl, t, rfl, ⟨_, SqT.of ht⟩, fun D nD => ?_⟩
    refine lc_depI (walk_tup (xs := zs)) nD (by omega) (fun _ sm => SqT.of (sm _ _ ht)) (fun i H v => ∃ e, fs[i]? = some e ∧ EntT H v (fTu e)) (fun i H H' v s ⟨e, he, h⟩ => ⟨e, he, h.same s⟩) (fun i H xs ys v hD ⟨e, he, h⟩ => ⟨e, he, h.mut hD⟩) (fun i x H6 H7 Kn Z hi sm _ y q => ?_) (fun H6 ys sm hD hl hr3 => ?_)
    · obtain ⟨rfl, hx⟩ := y
      obtain ⟨e, he, u, rfl, hu⟩ := el.at hx
      have hu' := sm _ _ hu
      refine ⟨u, _, rfl, SqT.of hu', rfl, ?_⟩
      walk_at "rd"
      exact fun p np => q _ _ (Same.new np) ⟨e, he, p, rfl, upd_same⟩
    · have el3 : EL H6 ys (fs.map fTu) := el_of (hl.trans ln) hr3
      exact ⟨D, ys, _, rfl, .inl hD, el3, ok, le, fun x gs n1 n2 H' s nx kd kn => k x gs n1 n2 H' (sm.trans s) (sm.free nx) kd kn⟩
end
end K11

set_option Elab.async false
set_option linter.all false
set_option maxRecDepth 100000
set_option maxHeartbeats 4000000
namespace K11
open PySem L2 Lay Own SrtO
local macro_rules | `(tactic| walk_at "ne") => `(tactic| first | assumption | (apply Ne.symm; assumption) | exact ne_of_none (by walk_at "look") (by assumption) | exact (ne_of_none (by walk_at "look") (by assumption)).symm)
local macro_rules | `(tactic| walk_at "look") => `(tactic| first | assumption | exact upd_same | (refine Eq.trans (upd_ne ?_) ?_; walk_at "ne"; walk_at "look"))
local macro_rules | `(tactic| walk_at "rds") => `(tactic| first | rfl | assumption | walk_at "look" | exact SqL.of (by walk_at "look") | exact SqT.of (by walk_at "look") | exact Or.inl (SqL.of (by walk_at "look")) | exact Or.inl (by assumption) | decide | omega | exact Nat.le_of_ble_eq_true rfl | exact Or.inr ⟨by decide, by decide⟩ | exact Or.inl ⟨by omega, by omega⟩ | exact ⟨by decide, by decide⟩)
local macro_rules | `(tactic| walk_at "rd1") => `(tactic| first | (apply Exists.intro) | (refine And.intro ?_ ?_; walk_at "rds") | (refine Or.inl ?_; apply Exists.intro; refine And.intro ?_ ?_; rfl))
local macro_rules | `(tactic| walk_at "rd") => `(tactic| repeat walk_at "rd1")
section
variable {P : Program} {w : World} {K : PySem.W.Frag} {mg : Str → Option Value} {base : Heap}
theorem un64 {k : Nat} {B : Around} (hr : Room k B) : B.units + 64 < cLine := by
  have := hr.un
  omega
/-! names -/
theorem keysPut_in {kvs : List (Key × V)} {k : Key} {v : V} (c : k ∈ kvs.map (·.1)) : (putK kvs k v).map (·.1) = kvs.map (·.1) := by
  unfold putK
  split
  · rw [List.map_map]
    refine List.map_congr_left fun p _ => ?_
    show (if p.1 = k then (p.1, v) else p).1 = p.1
    split <;> rfl
  · rename_i h
    refine absurd ?_ h
    obtain ⟨p, hp, e⟩ := List.mem_map.mp c
    exact List.any_eq_true.mpr ⟨p, hp, decide_eq_true e⟩
theorem keysPut_out {kvs : List (Key × V)} {k : Key} {v : V} (c : ¬ k ∈ kvs.map (·.1)) : (putK kvs k v).map (·.1) = kvs.map (·.1) ++ [k] := by
  unfold putK
  split
  · rename_i h
    refine absurd ?_ c
    obtain ⟨p, hp, e⟩ := List.any_eq_true.mp h
    exact List.mem_map.mpr ⟨p, hp, of_decide_eq_true e⟩
  · rw [List.map_append]; rfl
def strOf : V → Str
  | .str z => z
  | _ => ""
def NmI (fs : List Ent) (i : Nat) (kvs : List (Key × V)) : Prop := ∃ ns : List Str, kvs.map (·.1) = ns.map Sum.inr ∧ ns.Nodup ∧ (∀ z, z ∈ ns ↔ ∃ e ∈ fs.take i, e.2.2 = z) ∧ ns.length ≤ i
theorem NmI.step {fs : List Ent} {i : Nat} {kvs : List (Key × V)} {e : Ent} {v : V} (h : NmI fs i kvs) (he : fs[i]? = some e) : NmI fs (i + 1) (putK kvs (.inr e.2.2) v) := by
  obtain ⟨ns, h1, h2, h3, h4⟩ := h
  have tk : fs.take (i + 1) = fs.take i ++ [e] := by rw [List.take_add_one, he]; rfl
  have mm : ((Sum.inr e.2.2 : Key) ∈ kvs.map (·.1)) ↔ e.2.2 ∈ ns := by
    rw [h1, List.mem_map]
    constructor
    · rintro ⟨z, hz, q⟩; cases q; exact hz
    · intro hz; exact ⟨_, hz, rfl⟩
  by_cases c : e.2.2 ∈ ns
  · refine ⟨ns, by rw [keysPut_in (mm.mpr c)]; exact h1, h2, fun z => ?_, by omega⟩
    rw [h3, tk]
    constructor
    · rintro ⟨f, hf, q⟩; exact ⟨f, List.mem_append_left _ hf, q⟩
    · rintro ⟨f, hf, q⟩
      rcases List.mem_append.mp hf with hf | hf
      · exact ⟨f, hf, q⟩
      · rw [List.mem_singleton.mp hf] at q
        rw [q] at c
        exact (h3 z).mp c
  · refine ⟨ns ++ [e.2.2], by rw [keysPut_out (fun z => c (mm.mp z)), h1, List.map_append]; rfl, ?_, fun z => ?_, by rw [List.length_append]; show ns.length + 1 ≤ _; omega⟩
    · rw [List.nodup_append]
      refine ⟨h2, List.pairwise_singleton _ _, fun a ha b hb q => ?_⟩
      rw [List.mem_singleton] at hb
      subst hb; subst q
      exact c ha
    · rw [List.mem_append, h3, tk, List.mem_singleton]
      constructor
      · rintro (⟨f, hf, q⟩ | q)
        · exact ⟨f, List.mem_append_left _ hf, q⟩
        · exact ⟨e, List.mem_append_right _ (List.mem_singleton.mpr rfl), q.symm⟩
      · rintro ⟨f, hf, q⟩
        rcases List.mem_append.mp hf with hf | hf
        · exact .inl ⟨f, hf, q⟩
        · rw [List.mem_singleton.mp hf] at q; exact .inr q.symm
theorem strs_back {zs : List V} {ns : List Str} (p : zs.Perm (ns.map V.str)) : zs = (zs.map strOf).map V.str := by
  rw [List.map_map]
  refine (List.map_id zs).symm.trans (List.map_congr_left fun x hx => ?_)
  obtain ⟨n, _, rfl⟩ := List.mem_map.mp (p.mem_iff.mp hx)
  rfl
def NamesOf (fs : List Ent) (ns : List Str) : Prop := Sd strLt ns ∧ ns.Nodup ∧ ∀ z, z ∈ ns ↔ ∃ e ∈ fs, e.2.2 = z
def spNam (K : PySem.W.Frag) : Sp := fun vs H Q _ => ∃ a fs m1 m2, vs = [.ref a] ∧ KindAt K H a fs m1 m2 ∧ fs.length ≤ 8 ∧ ∀ p ns H', L2.Same H H' → H p = none → H' p = some (.lst (ns.map V.str)) → NamesOf fs ns → Q (.ref p) H'
theorem d_names (T : Txt K mg) : MDf P w K mg base 5 (He.ma K (kc K) "names") ["self"] (spNam K) := by
  have D_in_order := d_ord (P := P) (w := w) (base := base) T 3 (by decide)
  refine T.M_names.by sc_Kind_names (fun vs H Q E h => ?_) (fun f cdv A outer s H vs Q E hr hgd h => ?_)
  · obtain ⟨a, fs, m1, m2, rfl, _⟩ := h; rfl
  · obtain ⟨a, fs, m1, m2, rfl, ⟨dx, t, r, zs, ha, hdx, ht, el, hrr⟩, hl, k⟩ := h
    refine ⟨_, (pss_one (ps_ret (pe_own D_in_order (hr.mono (by first | decide | omega)) hgd (pa_cons (pe_callTy  (call_list_dK rfl) (by rfl) T.n_list (by decide +kernel) (pa_cons (pe_dc (own := [("entry", 1)]) rfl sc_Kind_names.nd (pi_tup (pe_fld (pv 0) rfl)) (blkOk_by (own := [("entry", 1)]) (N := ["self", "entry"]) (sc := defScope s_Kind_names) (by decide +kernel)) (fun _ _ _ _ _ => (pg_name (i := 1) sc_Kind_names.nd rfl (by first | exact Or.inl rfl | exact Or.inr rfl))) (fun _ _ _ _ _ => pts_nil) (fun _ _ _ _ _ => (pe_ix  (ix_tupK (C := K) rfl) (pv 1) pe_int (fun _ _ => rfl))) (fun _ _ _ _ _ => pe_bl)) pa_nil)) pa_nil)))), ?_⟩
    have ln := el.len
    refine ⟨_, rfl, a, kc K, dx, _, _, rfl, ha, T.cls, T.no_entries, rfl, t, rfl, ⟨_, SqT.of ht⟩, fun D nD => ?_⟩
    refine dc_tup (xs := zs) (fun i H' => L2.Same H H' ∧ ∃ kvs, H' D = some (.dK kvs) ∧ NmI fs i kvs) ⟨Same.new nD, [], upd_same, [], rfl, List.nodup_nil, fun z => by simp, Nat.le_refl _⟩ (fun i H' _ q => SqT.of (q.1 _ _ ht)) (fun i x H1 hx q => ?_) (fun H1 q => ?_)
    · obtain ⟨sm, kvs, hD, inv⟩ := q
      obtain ⟨e, he, u, rfl, hu⟩ := el.at hx
      have hu' := sm _ _ hu
      refine ⟨rfl, ?_⟩
      refine ⟨_, rfl, u, _, _, _, rfl, rfl, SqT.of hu', rfl, ?_⟩
      refine ⟨kvs, .inr e.2.2, rfl, hD, ?_, Same.mut sm nD, _, upd_same, inv.step he⟩
      obtain ⟨ns, h1, _, _, h4⟩ := inv
      have : kvs.length = ns.length := by rw [← List.length_map (f := (·.1)), h1, List.length_map]
      have := (List.getElem?_eq_some_iff.mp he).1
      exact Nat.lt_of_lt_of_le (m := 9) (by omega) (by decide)
    · obtain ⟨sm, kvs, hD, ns, h1, h2, h3, h4⟩ := q
      refine ⟨D, kvs, rfl, hD, fun q nq => ?_⟩
      have ek : kvs.map (fun kv => kV kv.1) = ns.map V.str := by
        have z : (kvs.map (·.1)).map kV = (ns.map Sum.inr).map kV := by rw [h1]
        rw [List.map_map, List.map_map] at z
        exact z
      rw [ek]
      refine ⟨q, ns.map V.str, fun x y => strLt (strOf x) (strOf y), rfl, SqL.of upd_same, Swo.on tot_str strOf, fun H2 s x hx y hy => ?_, by rw [List.length_map]; omega, fun ws p H2 s np hp pm sd => ?_⟩
      · obtain ⟨n, _, rfl⟩ := List.mem_map.mp hx
        obtain ⟨m, _, rfl⟩ := List.mem_map.mp hy
        exact .str n m
      · have eb := strs_back pm
        have s1 := sm.trans ((Same.new nq).trans s)
        rw [eb] at hp
        have pm2 : (ws.map strOf).Perm ns := by
          have z := pm.map strOf
          rw [List.map_map] at z
          have e : ns.map (strOf ∘ V.str) = ns := by rw [show (strOf ∘ V.str) = id from rfl, List.map_id]
          rw [e] at z; exact z
        refine k p (ws.map strOf) H2 s1 ((sm.trans (Same.new nq)).free np) hp ⟨List.Pairwise.map _ (fun a b h => h) sd, pm2.nodup_iff.mpr h2, fun z => ?_⟩
        rw [pm2.mem_iff, h3, List.take_of_length_le (by omega)]
/-! in -/
def spCon (K : PySem.W.Frag) : Sp := fun vs H Q _ => ∃ a fs m1 m2 x, vs = [.ref a, x] ∧ KindAt K H a fs m1 m2 ∧ (∀ e ∈ fs, EOk e) ∧ fs.length ≤ 8 ∧
  ((∃ e, EntT H x e ∧ EOk e ∧ ∀ H', L2.Same H H' → Q (.bl (decide (e ∈ fs))) H') ∨
   (It K H x ∧ ((∀ a xs, x = .ref a → H a = some (.tup xs) → xs.length ≠ 3) ∨ ∃ a x1 x2 x3, x = .ref a ∧ H a = some (.tup [x1, x2, x3]) ∧ It K H x1 ∧ It K H x2 ∧ It K H x3 ∧ (dB x1 && (dB x2 && nB x3)) = false) ∧ ∀ H', L2.Same H H' → Q (.bl false) H'))
theorem d_contains (T : Txt K mg) : MDf P w K mg base 4 (He.ma K (kc K) "__contains__") ["self", "x"] (spCon K) := by
  have D_is_entry := d_is_entry (P := P) (w := w) (base := base) T
  refine T.M___contains__.by sc_Kind___contains (fun vs H Q E h => ?_) (fun f cdv A outer s H vs Q E hr hgd h => ?_)
  · obtain ⟨a, fs, m1, m2, x, rfl, _⟩ := h; rfl
  · obtain ⟨a, fs, m1, m2, x, rfl, ⟨dx, t, r, zs, ha, hdx, ht, el, hrr⟩, ok, hl, h⟩ := h
    refine ⟨_, (pss_one (ps_ret (pe_and (pe_own D_is_entry (hr.mono (by first | decide | omega)) hgd (pa_cons (pv 1) pa_nil)) (pe_one (pe_cmpR (op_inT (un66 hr)) (pv 1) (pe_fld (pv 0) rfl) (by rfl)))))), ?_⟩
    rcases h with ⟨e, et, eok, k⟩ | ⟨hx, hc, k⟩
    · obtain ⟨u, rfl, hu⟩ := id et
      obtain ⟨⟨b1, b2⟩, ⟨b3, b4⟩, nm, nl, no⟩ := eok
      have eb : (dB (.int e.1) && (dB (.int e.2.1) && nB (.str e.2.2))) = true := by
        show ((decide (-20 ≤ e.1) && decide (e.1 ≤ 20)) && ((decide (-20 ≤ e.2.1) && decide (e.2.1 ≤ 20)) && nameB e.2.2)) = true
        rw [decide_eq_true b1, decide_eq_true b2, decide_eq_true b3, decide_eq_true b4, nm]; rfl
      refine ⟨_, rfl, .ref u, rfl, .tup hu, .inr ⟨u, _, _, _, rfl, hu, .int _, .int _, .str _ (by omega), fun H1 s1 => ?_⟩⟩
      rw [eb]
      refine ⟨true, rfl, iteT ?_⟩
      refine ⟨_, rfl, _, rfl, a, kc K, dx, _, _, rfl, s1 _ _ ha, T.cls, T.no_entries, rfl, eD e, fs.map eD, (et.same s1).dp, .tup (SqT.of (s1 _ _ ht)) (el.same s1).dp, eD_sh no, eDs_sh fun f hf => (ok f hf).2.2.2.2, ?_⟩
      rw [any_eD]
      exact k _ s1
    · refine ⟨_, rfl, x, rfl, hx, ?_⟩
      rcases hc with n3 | ⟨u, x1, x2, x3, rfl, hu, h1, h2, h3, eb⟩
      · exact .inl ⟨n3, fun H1 s1 => ⟨false, rfl, iteF (k _ s1)⟩⟩
      · refine .inr ⟨u, x1, x2, x3, rfl, hu, h1, h2, h3, fun H1 s1 => ?_⟩
        rw [eb]
        exact ⟨false, rfl, iteF (k _ s1)⟩
theorem It.notK (T : Txt K mg) {H : Hp} {y : V} (h : It K H y) (n : ∀ b d fl, y = .ref b → H b ≠ some (.ins (kc K) d fl)) : ∃ t, TyX K H y t ∧ PySem.W.kitOne K t (.ref (kc K)) = some false ∧ PySem.W.notFirst K (kc K) t = true := by
  cases h with
  | int i => exact ⟨_, .base (.int i), (T.kt "int" (by simp [Ty7])).1, (T.kt "int" (by simp [Ty7])).2.2⟩
  | str z h => exact ⟨_, .base (.str z), (T.kt "str" (by simp [Ty7])).1, (T.kt "str" (by simp [Ty7])).2.2⟩
  | non => exact ⟨_, .base .non, (T.kt "NoneType" (by simp [Ty7])).1, (T.kt "NoneType" (by simp [Ty7])).2.2⟩
  | bl b => exact ⟨_, .base (.bl b), (T.kt "bool" (by simp [Ty7])).1, (T.kt "bool" (by simp [Ty7])).2.2⟩
  | lst h => exact ⟨_, .base (.lst h), (T.kt "list" (by simp [Ty7])).1, (T.kt "list" (by simp [Ty7])).2.2⟩
  | tup h => exact ⟨_, .base (.tup h), (T.kt "tuple" (by simp [Ty7])).1, (T.kt "tuple" (by simp [Ty7])).2.2⟩
  | dct h => exact ⟨_, .base (.dK h), (T.kt "dict" (by simp [Ty7])).1, (T.kt "dict" (by simp [Ty7])).2.2⟩
  | own h => exact (n _ _ _ rfl h).elim
def spEqK (K : PySem.W.Frag) : Sp := fun vs H Q _ => ∃ a fs m1 m2 y, vs = [.ref a, y] ∧ KindAt K H a fs m1 m2 ∧ (∀ e ∈ fs, EOk e) ∧
  ((∃ b gs n1 n2, y = .ref b ∧ KindAt K H b gs n1 n2 ∧ (∀ e ∈ gs, EOk e) ∧ Q (.bl (decide (fs = gs))) H) ∨
   (It K H y ∧ (∀ b d fl, y = .ref b → H b ≠ some (.ins (kc K) d fl)) ∧ Q (.bl false) H))
theorem d_eq (T : Txt K mg) : MDf P w K mg base 1 (He.ma K (kc K) "__eq__") ["self", "other"] (spEqK K) := by
  refine T.M___eq__.by sc_Kind___eq (fun vs H Q E h => ?_) (fun f cdv A outer s H vs Q E hr hgd h => ?_)
  · obtain ⟨a, fs, m1, m2, x, rfl, _⟩ := h; rfl
  · obtain ⟨a, fs, m1, m2, y, rfl, ⟨dx, t, r, zs, ha, hdx, ht, el, hrr⟩, ok, h⟩ := h
    refine ⟨_, (pss_one (ps_ret (pe_and (pe_callB (Exv.call_isE T.gs) (by rfl) T.n_isinstance (by decide +kernel) (pa_cons (pv 1) (pa_cons (pe_glob (v := .ref (He.ga K "Kind")) (by rfl) T.g_Kind rfl) pa_nil))) (pe_one (pe_cmpR (op_eqD (un64 hr)) (pe_fld (pv 0) rfl) (pe_fld (pv 1) rfl) (nomark _)))))), ?_⟩
    rcases h with ⟨b, gs, n1, n2, rfl, ⟨dx2, t2, r2, zs2, ha2, hdx2, ht2, el2, hrr2⟩, ok2, k⟩ | ⟨hy, no, k⟩
    · refine ⟨_, rfl, .ref b, .ref (kc K), .ref (kc K), .ref (kc K), true, rfl, .own _, .base (own_ty T ha2), T.kk, true, rfl, iteT ?_⟩
      refine ⟨_, rfl, a, kc K, dx, _, _, rfl, ha, T.cls, T.no_entries, rfl, _, rfl, b, kc K, dx2, _, _, rfl, ha2, T.cls, T.no_entries, rfl, .tuple (fs.map eD), .tuple (gs.map eD), .tup (SqT.of ht) el.dp, .tup (SqT.of ht2) el2.dp, eDs_sh fun f hf => (ok f hf).2.2.2.2, eDs_sh fun f hf => (ok2 f hf).2.2.2.2, ?_⟩
      rw [eqvT]
      exact k
    · obtain ⟨ty, h1, h2, _⟩ := hy.notK T no
      exact ⟨_, rfl, y, .ref (kc K), ty, .ref (kc K), false, rfl, .own _, .base h1, h2, false, rfl, iteF k⟩
end
end K11

set_option Elab.async false
set_option linter.all false
set_option maxRecDepth 100000
set_option maxHeartbeats 4000000
namespace K11
open PySem L2 Lay Own SrtO
local macro_rules | `(tactic| walk_at "ne") => `(tactic| first | assumption | (apply Ne.symm; assumption) | exact ne_of_none (by walk_at "look") (by assumption) | exact (ne_of_none (by walk_at "look") (by assumption)).symm)
local macro_rules | `(tactic| walk_at "look") => `(tactic| first | assumption | exact upd_same | (refine Eq.trans (upd_ne ?_) ?_; walk_at "ne"; walk_at "look"))
local macro_rules | `(tactic| walk_at "rds") => `(tactic| first | rfl | assumption | walk_at "look" | exact SqL.of (by walk_at "look") | exact SqT.of (by walk_at "look") | exact Or.inl (SqL.of (by walk_at "look")) | exact Or.inl (by assumption) | decide | omega | exact Nat.le_of_ble_eq_true rfl | exact Or.inr ⟨by decide, by decide⟩ | exact Or.inl ⟨by omega, by omega⟩ | exact ⟨by decide, by decide⟩)
local macro_rules | `(tactic| walk_at "rd1") => `(tactic| first | (apply Exists.intro) | (refine And.intro ?_ ?_; walk_at "rds") | (refine Or.inl ?_; apply Exists.intro; refine And.intro ?_ ?_; rfl))
local macro_rules | `(tactic| walk_at "rd") => `(tactic| repeat walk_at "rd1")
section
variable {P : Program} {w : World} {K : PySem.W.Frag} {mg : Str → Option Value} {base : Heap}
/-! texts -/
def entTxt (e : Ent) : Str := tupleText [toString e.1, toString e.2.1, reprText e.2.2]
theorem name_small {z : Str} (h : nameB z = true) : ∀ c ∈ z.cps.toList, c < 16 ^ 8 := by
  intro c hc
  obtain ⟨i, hi⟩ := List.mem_iff_getElem?.mp hc
  have h2 : (lets z).all id = true := (Bool.and_eq_true_iff.mp h).2
  have hl : i < z.cps.size := by
    have := (List.getElem?_eq_some_iff.mp hi).1
    simpa using this
  have m : decide (z.cps.getD i 0 ∈ letters.cps.toList) ∈ lets z := List.mem_map.mpr ⟨i, List.mem_range.mpr hl, rfl⟩
  have d := of_decide_eq_true (show decide (z.cps.getD i 0 ∈ letters.cps.toList) = true from List.all_eq_true.mp h2 _ m)
  have e : z.cps.getD i 0 = c := by
    rw [Array.getElem?_toList] at hi
    simp [Array.getD, hl] at *
    exact hi
  rw [e] at d
  have a : ∀ x ∈ letters.cps.toList, x < 16 ^ 8 := by decide +kernel
  exact a c d
theorem int_len {i : Int} (h1 : -100 ≤ i) (h2 : i ≤ 100) : (Str.length ((toString i : String) : Str)) ≤ 4 := by
  have h : i.natAbs < 10 ^ 3 := by show i.natAbs < 1000; omega
  have e := int_text_length_le10 (a := i) (k := 3) (by decide) h
  rw [ofString_length]
  omega
theorem entTxt_len {e : Ent} (ok : EOk e) : (entTxt e).length ≤ 10100 := by
  obtain ⟨⟨b1, b2⟩, ⟨b3, b4⟩, nm, nl, no⟩ := ok
  have h := PySem.tupleText_len_le [((toString e.1 : String) : Str), ((toString e.2.1 : String) : Str), reprText e.2.2]
  have r := PySem.StrLaws.reprText_len e.2.2 (name_small nm)
  have i1 := int_len (i := e.1) (by omega) (by omega)
  have i2 := int_len (i := e.2.1) (by omega) (by omega)
  have h' : (entTxt e).length ≤ ([(Str.length ((toString e.1 : String) : Str)), (Str.length ((toString e.2.1 : String) : Str)), (reprText e.2.2).length]).sum + 2 * 3 + 3 := h
  simp only [List.sum_cons, List.sum_nil] at h'
  omega
theorem entsTxt_len {es : List Ent} (ok : ∀ e ∈ es, EOk e) (l : es.length ≤ 100) : (tupleText (es.map entTxt)).length ≤ 1100000 := by
  have h := PySem.tupleText_len_le (es.map entTxt)
  rw [List.map_map, List.length_map] at h
  have b : ∀ fs : List Ent, (∀ e ∈ fs, EOk e) → (fs.map ((·.length) ∘ entTxt)).sum ≤ 10100 * fs.length := by
    intro fs
    induction fs with
    | nil => intro _; simp
    | cons f fs ih =>
      intro hf
      have h1 := entTxt_len (hf f (List.mem_cons_self ..))
      have h2 := ih fun e he => hf e (List.mem_cons_of_mem _ he)
      simp only [List.map_cons, List.sum_cons, List.length_cons, Function.comp_apply] at *
      omega
  have := b es ok
  omega
theorem EntT.sw {H : Hp} {x : V} {e : Ent} (h : EntT H x e) (ok : EOk e) : ∃ t, x = .ref t ∧ H t = some (.tup [.int e.1, .int e.2.1, .str e.2.2]) ∧ Rp.Sw K H [t] x (entTxt e) := by
  obtain ⟨t, rfl, ht⟩ := h
  obtain ⟨⟨b1, b2⟩, ⟨b3, b4⟩, _⟩ := ok
  have lg : ∀ i : Int, -20 ≤ i → i ≤ 20 → i.natAbs.log2 < 1920 := fun i h1 h2 => by
    have h : i.natAbs < 2 ^ 10 := by show i.natAbs < 1024; omega
    rcases Nat.eq_zero_or_pos i.natAbs with z | z
    · rw [z]; decide
    · exact Nat.lt_trans ((Nat.log2_lt (by omega)).mpr h) (by decide)
  exact ⟨t, rfl, ht, .tup ht (.cons (.int _ (lg _ b1 b2)) (.cons (.int _ (lg _ b3 b4)) (.cons (.str _) .nil))) (by simp)⟩
theorem EL.swl {H : Hp} {xs : List V} {es : List Ent} (h : EL H xs es) (ok : ∀ e ∈ es, EOk e) : ∃ as, Rp.SwL K H as xs (es.map entTxt) ∧ as.length = es.length ∧ ∀ b ∈ as, ∃ e : Ent, H b = some (.tup [.int e.1, .int e.2.1, .str e.2.2]) := by
  induction h with
  | nil => exact ⟨[], .nil, rfl, by simp⟩
  | cons h _ ih =>
    rename_i x e xs es _
    obtain ⟨as, h1, h2, h3⟩ := ih fun f hf => ok f (List.mem_cons_of_mem _ hf)
    obtain ⟨t, rfl, ht, sw⟩ := EntT.sw (K := K) h (ok e (List.mem_cons_self ..))
    refine ⟨t :: as, .cons sw h1, by rw [List.length_cons, List.length_cons, h2], fun b hb => ?_⟩
    rcases List.mem_cons.mp hb with rfl | hb
    · exact ⟨e, ht⟩
    · exact h3 b hb
/-- no tuple of entries stands among the tuples that are its entries -/
theorem EL.off {H : Hp} {p : Addr} {zs : List V} {es : List Ent} {as : List Addr} (hp : H p = some (.tup zs) ∨ H p = some (.lst zs)) (h : EL H zs es) (ha : ∀ b ∈ as, ∃ e : Ent, H b = some (.tup [.int e.1, .int e.2.1, .str e.2.2])) : p ∉ as := by
  intro hm
  obtain ⟨e, he⟩ := ha p hm
  rcases hp with hp | hp
  · rw [hp] at he
    cases he
    cases h with
    | cons h _ =>
      obtain ⟨t, z, _⟩ := h
      cases z
  · rw [hp] at he
    cases he
def spRep (K : PySem.W.Frag) : Sp := fun vs H Q _ => ∃ a fs m1 m2, vs = [.ref a] ∧ KindAt K H a fs m1 m2 ∧ (∀ e ∈ fs, EOk e) ∧ fs.length ≤ 8 ∧ Q (.str ("Kind" ++ tupleText (fs.map entTxt))) H
theorem d_repr (T : Txt K mg) : MDf P w K mg base 1 (He.ma K (kc K) "__repr__") ["self"] (spRep K) := by
  refine T.M___repr__.by sc_Kind___repr (fun vs H Q E h => ?_) (fun f cdv A outer s H vs Q E hr hgd h => ?_)
  · obtain ⟨a, fs, m1, m2, rfl, _⟩ := h; rfl
  · obtain ⟨a, fs, m1, m2, rfl, ⟨dx, t, r, zs, ha, hdx, ht, el, hrr⟩, ok, hl, k⟩ := h
    refine ⟨_, (pss_one (ps_ret (pe_joined (.cons pe_str (.cons (pe_fmtT2 hgd (un200 hr) (pe_fld (pv 0) rfl)) .nil))))), ?_⟩
    obtain ⟨as, sw, la, ho⟩ := EL.swl (K := K) el ok
    refine ⟨"Kind", rfl, by decide +kernel, ?_⟩
    refine ⟨_, rfl, a, kc K, dx, _, _, rfl, ha, T.cls, T.no_entries, rfl, t, as, zs, _, rfl, ht, sw, EL.off (.inl ht) el ho, by omega, Nat.le_trans (entsTxt_len ok (by omega)) (by decide), ?_⟩
    refine ⟨_, rfl, ?_, ?_⟩
    · have z := entsTxt_len ok (by omega)
      rw [strLen_append]
      have e : (Str.empty ++ Str.ofString "Kind").length = 4 := by decide +kernel
      rw [e]
      exact Nat.le_trans (m := 1100004) (by omega) (by decide)
    · exact k
end
end K11

set_option Elab.async false
set_option linter.all false
set_option maxRecDepth 100000
set_option maxHeartbeats 4000000
namespace K11
open PySem L2 Lay Own SrtO
local macro_rules | `(tactic| walk_at "ne") => `(tactic| first | assumption | (apply Ne.symm; assumption) | exact ne_of_none (by walk_at "look") (by assumption) | exact (ne_of_none (by walk_at "look") (by assumption)).symm)
local macro_rules | `(tactic| walk_at "look") => `(tactic| first | assumption | exact upd_same | (refine Eq.trans (upd_ne ?_) ?_; walk_at "ne"; walk_at "look"))
local macro_rules | `(tactic| walk_at "rds") => `(tactic| first | rfl | assumption | walk_at "look" | exact SqL.of (by walk_at "look") | exact SqT.of (by walk_at "look") | exact Or.inl (SqL.of (by walk_at "look")) | exact Or.inl (by assumption) | decide | omega | exact Nat.le_of_ble_eq_true rfl | exact Or.inr ⟨by decide, by decide⟩ | exact Or.inl ⟨by omega, by omega⟩ | exact ⟨by decide, by decide⟩)
local macro_rules | `(tactic| walk_at "rd1") => `(tactic| first | (apply Exists.intro) | (refine And.intro ?_ ?_; walk_at "rds") | (refine Or.inl ?_; apply Exists.intro; refine And.intro ?_ ?_; rfl))
local macro_rules | `(tactic| walk_at "rd") => `(tactic| repeat walk_at "rd1")
section
variable {P : Program} {w : World} {K : PySem.W.Frag} {mg : Str → Option Value} {base : Heap}
theorem d_draw (T : Txt K mg) : Df P w K mg base 1 "_law_draw" ["_law_pot_here", "_law_many"] spDraw := by
  refine draw_up (T.S_l_draw.by sc_l_draw (fun vs H Q E h => ?_) (fun f cdv A outer s H vs Q E hr hgd h => ?_)) rfl
  · obtain ⟨p, m, a, b, rfl, _⟩ := h; rfl
  · obtain ⟨p, m, a, b, rfl, hp, b0, b1, m0, m1, k⟩ := h
    refine ⟨_, (pss_cons (ps_if (pt_cmpR op_gt (pe_ix ix_list (pv 0) pe_int (fun _ _ => rfl)) pe_int (nomark _)) (pss_cons (ps_asg (pe_callB call_divmodW (by rfl) T.n_divmod (by decide +kernel) (pa_cons (pe_ix ix_list (pv 0) pe_int (fun _ _ => rfl)) (pa_cons (pv 1) pa_nil))) (pg_tup rfl (pgs_cons (pg_sub (pv 0) pe_int set_list) (pgs_cons (pg_name (i := 2) sc_l_draw.nd rfl (by first | exact Or.inl rfl | exact Or.inr rfl)) pgs_nil))))
      (pss_one (ps_ret (pv 2)))) pss_nil)
      (pss_cons (ps_asg (pe_op op_mod (pe_callTy call_int1 (by rfl) T.n_int (by decide +kernel) (pa_cons (pe_op op_add (pe_op op_mul (pe_ix ix_list (pv 0) pe_int (fun _ _ => rfl)) pe_int) pe_int) pa_nil)) pe_int) (pg_sub (pv 0) pe_int set_list))
      (pss_one (ps_ret (pe_op op_mod (pe_callTy call_int1 (by rfl) T.n_int (by decide +kernel) (pa_cons (pe_op op_fdiv (pe_op op_mod (pe_callTy call_int1 (by rfl) T.n_int (by decide +kernel) (pa_cons (pe_op op_mul (pe_ix ix_list (pv 0) pe_int (fun _ _ => rfl)) (pe_ix ix_list (pv 0) pe_int (fun _ _ => rfl))) pa_nil)) pe_int) pe_int) pa_nil)) (pv 1)))))), ?_⟩
    walk_at "rd"
    refine ite2 (fun _ => ?_) (fun _ => ?_)
    · walk_at "rd"
      refine And.intro ⟨m0, divs_ok m0 m1⟩ fun t ht => ?_
      walk_at "rd"
      refine k _ (a / m) b _ (Int.emod_nonneg _ (by omega)) (Int.emod_lt_of_pos _ m0) b0 b1 (fun q o n e => ?_) upd_same
      rw [upd_ne n, upd_ne (ne_of_none e ht)]; exact e
    · walk_at "rd"
      refine k _ a ((b * 48271 + 20011) % 2147483423) _ (Int.emod_nonneg _ (by omega)) (Int.emod_lt_of_pos _ m0) (Int.emod_nonneg _ (by decide)) (Int.lt_trans (Int.emod_lt_of_pos _ (by decide)) (by decide)) (fun q o n e => ?_) upd_same
      rw [upd_ne n]; exact e

theorem d_pot (T : Txt K mg) : Df P w K mg base 1 "_law_pot" ["_law_script", "_law_k"] (spPot K) := by
  refine pot_up (T.S_l_pot.by sc_l_pot (fun vs H Q E h => ?_) (fun f cdv A outer s H vs Q E hr hgd h => ?_)) rfl
  · obtain ⟨s, ns, i, rfl, _⟩ := h; rfl
  · obtain ⟨s, ns, i, rfl, hs, l1, i1, k⟩ := h
    refine ⟨_, (pss_cons (ps_set (i := 2) sc_l_pot.nd rfl (by first | exact Or.inl rfl | exact Or.inr rfl) (pe_op op_add (pe_op op_mul pe_int (pv 1)) pe_int))
      (pss_cons (ps_if (pt_cmpR op_lt (pv 1) (pe_callB call_len_seq (by rfl) T.n_len PySem.boot_len (pa_cons (pv 0) pa_nil)) (nomark _)) (pss_one (ps_set (i := 2) sc_l_pot.nd rfl (by first | exact Or.inl rfl | exact Or.inr rfl) (pe_callB call_abs (by rfl) T.n_abs (by decide +kernel) (pa_cons (pe_ix ix_list (pv 0) (pv 1) (fun _ _ => rfl)) pa_nil)))) pss_nil)
      (pss_one (ps_ret (pe_lst (pa_cons (pe_callB (call_max2 rfl) (by rfl) T.n_max (by decide +kernel) (pa_cons pe_int (pa_cons (pe_op op_sub (pv 2) (pe_op op_pow pe_int pe_int)) pa_nil))) (pa_cons (pe_op op_add (pe_op op_mod (pe_callTy call_int1 (by rfl) T.n_int (by decide +kernel) (pa_cons (pe_op op_add (pe_op op_add (pe_op op_mul (pe_op op_mod (pe_callTy call_int1 (by rfl) T.n_int (by decide +kernel) (pa_cons (pv 2) pa_nil)) pe_int) pe_int) (pe_op op_mul pe_int (pv 1))) pe_int) pa_nil)) pe_int) pe_int) pa_nil))))))), ?_⟩
    walk_at "rd"
    refine ite2 (fun c => ?_) (fun c => ?_)
    · have hi : i < ns.length := by
        have z := of_decide_eq_true c
        rw [List.length_map] at z
        omega
      have hn : (ns.map V.int)[i]? = some (V.int ns[i]) := by rw [List.getElem?_map, List.getElem?_eq_getElem hi]; rfl
      walk_at "rd"
      refine And.intro (at_of rfl hn) ?_
      walk_at "rd"
      intro p np
      exact k _ _ p _ (by omega) (by omega) np (Same.new np) upd_same
    · walk_at "rd"
      intro p np
      exact k _ _ p _ (by omega) (by omega) np (Same.new np) upd_same

/-! an index of a list by a draw -/
def spAmong (K : PySem.W.Frag) : Sp := fun vs H Q _ => ∃ (p a : Addr) (xs : List V), vs = [.ref p, .ref a] ∧ H p = some (PotO p) ∧ SqL K H a xs ∧ 0 < xs.length ∧ xs.length ≤ 100000 ∧ ∀ y H', y ∈ xs → L2.Same H H' → Q y H'
theorem d_among (T : Txt K mg) : Df P w K mg base 2 "_law_among" ["_law_pot_here", "_law_some"] (spAmong K) := by
  have D_l_draw := d_draw (P := P) (w := w) (base := base) T
  refine T.S_l_among.by sc_l_among (fun vs H Q E h => ?_) (fun f cdv A outer s H vs Q E hr hgd h => ?_)
  · obtain ⟨p, a, xs, rfl, _⟩ := h; rfl
  · obtain ⟨p, a, xs, rfl, hp, ha, l0, l1, k⟩ := h
    refine ⟨_, (pss_one (ps_ret (pe_ix ix_list (pv 1) (pe_own D_l_draw (hr.mono (by first | decide | omega)) hgd (pa_cons (pv 0) (pa_cons (pe_callB call_len_seq (by rfl) T.n_len PySem.boot_len (pa_cons (pv 1) pa_nil)) pa_nil))) (fun _ _ => rfl)))), ?_⟩
    refine ⟨_, rfl, _, rfl, _, rfl, a, xs, rfl, .inl ha, ?_⟩
    walk_at "rd"
    intro d H' d0 d1 e
    have hd : d.toNat < xs.length := by omega
    refine ⟨a, xs, d, _, rfl, rfl, e.seq ha, at_of (j := d.toNat) (by omega) (List.getElem?_eq_getElem hd), ?_⟩
    exact k _ H' (List.getElem_mem _) e
end
end K11

set_option Elab.async false
set_option linter.all false
set_option maxRecDepth 100000
set_option maxHeartbeats 4000000
namespace K11
open PySem L2 Lay Own SrtO TL
/-- one to eight letters -/
def Wd (z : Str) : Prop := 1 ≤ z.cps.toList.length ∧ z.cps.toList.length ≤ 8 ∧ ∀ c ∈ z.cps.toList, c ∈ letters.cps.toList
theorem Wd.name {z : Str} (h : Wd z) : nameB z = true := by
  obtain ⟨h1, h2, h3⟩ := h
  have e : z.length = z.cps.toList.length := by simp [Str.length]
  unfold nameB
  rw [decide_eq_true (show (1 : Int) ≤ (z.length : Int) by omega), decide_eq_true (show (z.length : Int) ≤ 8 by omega)]
  show (lets z).all id = true
  unfold lets
  rw [List.all_map, List.all_eq_true]
  intro i hi
  have hi := List.mem_range.mp hi
  refine decide_eq_true (h3 _ ?_)
  have : z.cps.getD i 0 = z.cps[i] := by simp [Array.getD, hi]
  rw [this]
  simp
theorem Wd.ok {z : Str} (h : Wd z) : PyData.strOk z = true := by
  unfold PyData.strOk
  rw [Array.all_eq_true_iff_forall_mem]
  intro c hc
  have a : ∀ x ∈ letters.cps.toList, x < 0x110000 := by decide +kernel
  exact decide_eq_true (a c (h.2.2 c (by simpa using hc)))
def sg (c : Nat) : Str := ⟨#[c]⟩
theorem sg_inj {c d : Nat} (h : sg c = sg d) : c = d := by
  have := congrArg (fun z : Str => z.cps.toList) h
  simpa [sg] using this
theorem joined (cs : List Nat) : (Txt.join "" (cs.map sg)).cps.toList = cs := by
  rw [join_eq]
  have h := tl_join "" (cs.map sg)
  have g : ∀ l : List Nat, joinL [] ((l.map sg).map tl) = l := by
    intro l
    induction l with
    | nil => rfl
    | cons a l ih =>
      cases l with
      | nil => rfl
      | cons b l => show tl (sg a) ++ ([] ++ joinL [] (((b :: l).map sg).map tl)) = a :: b :: l; rw [ih]; rfl
  exact h.trans (g cs)
theorem signs_of {Pc : Nat → Prop} : ∀ {ys : List V}, (∀ (i : Nat) y, ys[i]? = some y → ∃ c, Pc c ∧ y = .str (sg c)) → ∃ cs : List Nat, ys = (cs.map sg).map V.str ∧ ∀ c ∈ cs, Pc c
  | [], _ => ⟨[], rfl, fun c h => by cases h⟩
  | y :: ys, h => by
    obtain ⟨c, hc, rfl⟩ := h 0 y rfl
    obtain ⟨cs, e, hcs⟩ := signs_of (ys := ys) fun i z hz => h (i + 1) z (by simpa using hz)
    refine ⟨c :: cs, by rw [e]; rfl, fun d hd => ?_⟩
    rcases List.mem_cons.mp hd with rfl | hd
    · exact hc
    · exact hcs d hd
theorem sum_sg (cs : List Nat) : ((cs.map sg).map (fun x : Str => x.length)).sum = cs.length := by
  induction cs with
  | nil => rfl
  | cons c cs ih => simp only [List.map_cons, List.sum_cons, List.length_cons, ih]; show 1 + cs.length = _; omega
/-- the word with another sign behind its first seven -/
def vary (z : Str) (c : Nat) : Str := cutS z none (some 7) ++ sg c
theorem vary_tl (z : Str) (c : Nat) : (vary z c).cps.toList = z.cps.toList.take 7 ++ [c] := by
  unfold vary
  show tl (cutS z none (some ((7 : Nat) : Int)) ++ sg c) = _
  rw [tl_append]
  show (z.cps.toList.drop (HT.sIx z.length 0 none)).take (HT.sIx z.length z.length (some ((7 : Nat) : Int)) - HT.sIx z.length 0 none) ++ [c] = _
  rw [HT.sIx_nat, HT.sIx_none, List.drop_zero, Nat.sub_zero, len_tl z]
  congr 1
  show (tl z).take (min 7 (tl z).length) = (tl z).take 7
  by_cases q : 7 ≤ (tl z).length
  · rw [Nat.min_eq_left q]
  · rw [Nat.min_eq_right (by omega), List.take_of_length_le (Nat.le_refl _), List.take_of_length_le (by omega)]
theorem Wd.vary {z : Str} {c : Nat} (h : Wd z) (hc : c ∈ letters.cps.toList) : Wd (vary z c) := by
  unfold Wd
  rw [vary_tl, List.length_append, List.length_take]
  refine ⟨by show 1 ≤ _ + 1; omega, by show _ + 1 ≤ 8; omega, fun d hd => ?_⟩
  rcases List.mem_append.mp hd with hd | hd
  · exact h.2.2 d (List.mem_of_mem_take hd)
  · rw [List.mem_singleton.mp hd]; exact hc
theorem vary_inj {z : Str} {c d : Nat} (h : vary z c = vary z d) : c = d := by
  have := congrArg (fun z : Str => z.cps.toList) h
  simp only [vary_tl] at this
  have := List.append_cancel_left this
  simpa using this
/-- more unlike things than there are in the other list -/
theorem pigeon {α : Type} [DecidableEq α] : ∀ {l m : List α}, l.Nodup → m.length < l.length → ∃ x ∈ l, x ∉ m
  | [], m, _, h => by simp at h
  | a :: l, m, hn, h => by
    by_cases c : a ∈ m
    · have hl : (m.erase a).length < l.length := by
        rw [List.length_erase_of_mem c]
        have : 0 < m.length := List.length_pos_of_mem c
        simp at h; omega
      obtain ⟨x, hx, hm⟩ := pigeon (List.nodup_cons.mp hn).2 hl
      refine ⟨x, List.mem_cons_of_mem _ hx, fun z => hm ?_⟩
      exact (List.mem_erase_of_ne (fun e => (List.nodup_cons.mp hn).1 (by rw [← e]; exact hx))).mpr z
    · exact ⟨a, List.mem_cons_self .., c⟩
theorem inV_str (w : Str) (ns : List Str) : inV (.str w) (ns.map V.str) = decide (w ∈ ns) := by
  induction ns with
  | nil => rfl
  | cons n ns ih =>
    show (eqV (.str n) (.str w) || inV (.str w) (ns.map V.str)) = _
    rw [ih]
    show ((n == w) || decide (w ∈ ns)) = _
    by_cases h : w = n
    · subst h; simp
    · have h' : ¬ n = w := fun z => h z.symm
      simp [h, h']
theorem flat_str (ns : List Str) : (ns.map V.str).all flatV = true := by
  rw [List.all_map, List.all_eq_true]
  exact fun _ _ => rfl
theorem vals_of_at {α : Type} {f : α → Str} {cs : List α} {ys : List V} (hl : ys.length = cs.length) (h : ∀ (i : Nat) y, ys[i]? = some y → ∃ c, cs[i]? = some c ∧ y = .str (f c)) : ys = (cs.map f).map V.str := by
  apply List.ext_getElem?
  intro i
  rw [List.getElem?_map, List.getElem?_map]
  cases hy : ys[i]? with
  | none =>
    have : cs.length ≤ i := by rw [← hl]; exact List.getElem?_eq_none_iff.mp hy
    rw [List.getElem?_eq_none this]; rfl
  | some y =>
    obtain ⟨c, hc, rfl⟩ := h i y hy
    rw [hc]; rfl
theorem Wd.len {z : Str} (h : Wd z) : z.length ≤ 8 := by rw [len_tl z]; exact h.2.1
/-- all that may be the new word -/
def fresh (z : Str) : List Str := z :: letters.cps.toList.map (vary z)
theorem fresh_some {z : Str} {found : List Str} (h : found.length < 26) : (fresh z).filter (fun x => !decide (x ∈ found)) ≠ [] := by
  have hn : (letters.cps.toList.map (vary z)).Nodup := by
    rw [List.nodup_iff_pairwise_ne, List.pairwise_map]
    have : letters.cps.toList.Nodup := by decide +kernel
    exact List.Pairwise.imp (fun a e => a (vary_inj e)) this
  have hl : (letters.cps.toList.map (vary z)).length = 26 := by rw [List.length_map]; decide +kernel
  obtain ⟨x, hx, hm⟩ := pigeon (m := found) hn (by rw [hl]; exact h)
  intro e
  have : x ∈ (fresh z).filter (fun x => !decide (x ∈ found)) := List.mem_filter.mpr ⟨List.mem_cons_of_mem _ hx, by rw [decide_eq_false hm]; rfl⟩
  rw [e] at this
  cases this
theorem fresh_wd {z : Str} (h : Wd z) : ∀ x ∈ fresh z, Wd x := fun x hx => by
  rcases List.mem_cons.mp hx with rfl | hx
  · exact h
  · obtain ⟨c, hc, rfl⟩ := List.mem_map.mp hx
    exact h.vary hc
end K11

set_option Elab.async false
set_option linter.all false
set_option maxRecDepth 100000
set_option maxHeartbeats 4000000
namespace K11
open PySem L2 Lay Own SrtO
local macro_rules | `(tactic| walk_at "ne") => `(tactic| first | assumption | (apply Ne.symm; assumption) | exact ne_of_none (by walk_at "look") (by assumption) | exact (ne_of_none (by walk_at "look") (by assumption)).symm)
local macro_rules | `(tactic| walk_at "look") => `(tactic| first | assumption | exact upd_same | (refine Eq.trans (upd_ne ?_) ?_; walk_at "ne"; walk_at "look"))
local macro_rules | `(tactic| walk_at "rds") => `(tactic| first | rfl | assumption | walk_at "look" | exact SqL.of (by walk_at "look") | exact SqT.of (by walk_at "look") | exact Or.inl (SqL.of (by walk_at "look")) | exact Or.inl (by assumption) | decide | omega | exact Nat.le_of_ble_eq_true rfl | exact Or.inr ⟨by decide, by decide⟩ | exact Or.inl ⟨by omega, by omega⟩ | exact ⟨by decide, by decide⟩)
local macro_rules | `(tactic| walk_at "rd1") => `(tactic| first | (apply Exists.intro) | (refine And.intro ?_ ?_; walk_at "rds") | (refine Or.inl ?_; apply Exists.intro; refine And.intro ?_ ?_; rfl))
local macro_rules | `(tactic| walk_at "rd") => `(tactic| repeat walk_at "rd1")
section
variable {P : Program} {w : World} {K : PySem.W.Frag} {mg : Str → Option Value} {base : Heap}
theorem op_notInK {cx : Cx} {C : PySem.W.Frag} (h : cx.K = C) : OpR cx (compareOp .NotIn) (rIn C true) := h ▸ op_notIn_seq
/-! names -/
structure NsOk (ns : List Str) : Prop where
  nd : ns.Nodup
  ok : ∀ z ∈ ns, Wd z
def spNames (K : PySem.W.Frag) : Sp := fun vs H Q _ => ∃ (p : Addr) (n : Nat), vs = [.ref p, .int n] ∧ H p = some (PotO p) ∧ n ≤ 10 ∧ ∀ l ns H', L2.Same H H' → H l = none → H' l = some (.lst (ns.map V.str)) → NsOk ns → ns.length = n → Q (.ref l) H'
theorem d_lnames (T : Txt K mg) : Df P w K mg base 3 "_law_names" ["_law_pot_here", "_law_many"] (spNames K) := by
  have D_l_draw := d_draw (P := P) (w := w) (base := base) T
  have D_l_among := d_among (P := P) (w := w) (base := base) T
  refine T.S_l_names.by sc_l_names (fun vs H Q E h => ?_) (fun f cdv A outer s H vs Q E hr hgd h => ?_)
  · obtain ⟨p, n, rfl, _⟩ := h; rfl
  · obtain ⟨p, n, rfl, hp, ln, k⟩ := h
    refine ⟨_, (pss_cons (ps_asg (pe_tup (pa_cons pe_str (pa_cons (pe_lst pa_nil) pa_nil))) (pg_tup rfl (pgs_cons (pg_name (i := 2) sc_l_names.nd rfl (by first | exact Or.inl rfl | exact Or.inr rfl)) (pgs_cons (pg_name (i := 3) sc_l_names.nd rfl (by first | exact Or.inl rfl | exact Or.inr rfl)) pgs_nil))))
      (pss_cons (ps_for PassesOwn.never rfl (pi_range1 (by rfl) T.n_range (pa_cons (pv 1) pa_nil)) (pg_name (i := 4) sc_l_names.nd rfl (by first | exact Or.inl rfl | exact Or.inr rfl)) (pss_cons (ps_set (i := 5) sc_l_names.nd rfl (by first | exact Or.inl rfl | exact Or.inr rfl) (pe_op op_add pe_int (pe_own D_l_draw (hr.mono (by first | decide | omega)) hgd (pa_cons (pv 0) (pa_cons (pe_own D_l_among (hr.mono (by first | decide | omega)) hgd (pa_cons (pv 0) (pa_cons (pe_lst (pa_cons pe_int (pa_cons pe_int (pa_cons pe_int (pa_cons pe_int pa_nil))))) pa_nil))) pa_nil)))))
      (pss_cons (ps_set (i := 6) sc_l_names.nd rfl (by first | exact Or.inl rfl | exact Or.inr rfl) (pe_join pe_str (pe_lc (own := [("_law_sign", 8)]) rfl sc_l_names.nd (pi_range1 (by rfl) T.n_range (pa_cons (pv 5) pa_nil)) (blkOk_by (own := [("_law_sign", 8)]) (N := ["_law_pot_here", "_law_many", "_law_letters", "_law_found", "_law_turn", "_law_far_here", "_law_word", "_law_fresh", "_law_sign", "_law_one"]) (sc := defScope s_l_names) (by decide +kernel)) (fun _ _ _ _ _ => (pg_name (i := 8) sc_l_names.nd rfl (by first | exact Or.inl rfl | exact Or.inr rfl))) (fun _ _ _ _ _ => pts_nil) (fun _ _ _ _ _ => (pe_ix ix_str (pv 2) (pe_own D_l_draw (hr.mono (by first | decide | omega)) hgd (pa_cons (pv 0) (pa_cons pe_int pa_nil))) (fun _ _ => rfl))))))
      (pss_cons (ps_set (i := 7) sc_l_names.nd rfl (by first | exact Or.inl rfl | exact Or.inr rfl) (pe_op op_cat (pe_lst (pa_cons (pv 6) pa_nil)) (pe_lc (own := [("_law_sign", 8)]) rfl sc_l_names.nd (pi_str (pv 2)) (blkOk_by (own := [("_law_sign", 8)]) (N := ["_law_pot_here", "_law_many", "_law_letters", "_law_found", "_law_turn", "_law_far_here", "_law_word", "_law_fresh", "_law_sign", "_law_one"]) (sc := defScope s_l_names) (by decide +kernel)) (fun _ _ _ _ _ => (pg_name (i := 8) sc_l_names.nd rfl (by first | exact Or.inl rfl | exact Or.inr rfl))) (fun _ _ _ _ _ => pts_nil) (fun _ _ _ _ _ => (pe_op op_add_str (pe_slice sl_str (pv 6) po_none (po_some pe_int)) (pv 8))))))
      (pss_one (ps_expr (pe_bm PySem.F.plainAttrs_list PySem.F.slot_list_append PySem.F.type_list_append mt_append (pv 3) (pa_cons (pe_ix ix_list (pe_lc (own := [("_law_one", 9)]) rfl sc_l_names.nd (pi_list (pv 7)) (blkOk_by (own := [("_law_one", 9)]) (N := ["_law_pot_here", "_law_many", "_law_letters", "_law_found", "_law_turn", "_law_far_here", "_law_word", "_law_fresh", "_law_sign", "_law_one"]) (sc := defScope s_l_names) (by decide +kernel)) (fun _ _ _ _ _ => (pg_name (i := 9) sc_l_names.nd rfl (by first | exact Or.inl rfl | exact Or.inr rfl))) (fun _ _ _ _ _ => pts_one (pt_cmpR (op_notInK (C := K) rfl) (pv 9) (pv 3) (by rfl))) (fun _ _ _ _ _ => (pv 9))) pe_int (fun _ _ => rfl)) pa_nil))))))))
      (pss_one (ps_ret (pv 3))))), ?_⟩
    walk_at "rd"
    intro o no
    walk_at "rd"
    intro t nt
    have s0 : L2.Same H (upd (upd H o (.lst [])) t (.tup [V.str "abcdefghijklmnopqrstuvwxyz", .ref o])) := (Same.new no).trans (Same.new nt)
    have o0 : (upd (upd H o (.lst [])) t (.tup [V.str "abcdefghijklmnopqrstuvwxyz", .ref o])) o = some (.lst []) := by
      rw [upd_ne (fun z => by rw [← z, upd_same] at nt; cases nt)]; exact upd_same
    refine ⟨t, _, rfl, SqT.of upd_same, rfl, _, _, rfl, _, _, rfl, rfl, ?_⟩
    refine ⟨_, rfl, n, rfl, by omega, by omega, ?_⟩
    refine for_it walk_range (fun i σ H' => ∃ (a4 a5 a6 a7 a8 a9 : Option V) (ns : List Str), σ = [some (.ref p), some (.int n), some (.str letters), some (.ref o), a4, a5, a6, a7, a8, a9] ∧ L2.Same H H' ∧ H' o = some (.lst (ns.map V.str)) ∧ NsOk ns ∧ ns.length = i)
      ⟨_, _, _, _, _, _, [], rfl, s0, o0, ⟨List.nodup_nil, fun z hz => by cases hz⟩, rfl⟩ (fun _ _ _ _ _ => trivial) (fun i x σ H1 H2 hi hP y => ?_) (fun σ H1 hP => ?_)
    · obtain ⟨a4, a5, a6, a7, a8, a9, ns, rfl, s1, ho, ok, ln⟩ := hP
      obtain ⟨rfl, rfl⟩ := y
      walk_at "rd"
      intro l nl
      have t1 := s1.trans (Same.new (o := .lst [V.int 1, V.int 2, V.int 3, V.int 8]) nl)
      refine ⟨p, l, _, rfl, t1 _ _ hp, SqL.of upd_same, by decide, by decide, fun y H3 hy s3 => ?_⟩
      have hj : ∃ j : Int, y = .int j ∧ 1 ≤ j ∧ j ≤ 8 := by
        simp only [List.mem_cons, List.not_mem_nil, or_false] at hy
        rcases hy with rfl | rfl | rfl | rfl <;> exact ⟨_, rfl, by decide, by decide⟩
      obtain ⟨j, rfl, j1, j8⟩ := hj
      have t2 := t1.trans s3
      refine ⟨p, j, rfl, t2 _ _ hp, by omega, Int.lt_of_le_of_lt j8 (by decide), fun d H4 d0 d1 s4 => ?_⟩
      have t3 := t2.trans s4
      refine ⟨1, d, rfl, rfl, ?_⟩
      refine ⟨⟨_, rfl⟩, _, rfl, 1 + d, rfl, by omega, by omega, fun D nD => ?_⟩
      refine lc_pure walk_range nD (by omega) (fun _ _ => trivial) (fun i y => ∃ c, c ∈ letters.cps.toList ∧ y = .str (sg c)) (fun i x H5 H6 Kn Z hi sm y q => ?_) (fun H5 ys sm hD hl hr => ?_)
      · obtain ⟨rfl, rfl⟩ := y
        refine ⟨rfl, ?_⟩
        refine ⟨_, rfl, _, rfl, p, 26, rfl, (t3.trans sm) _ _ hp, by decide, by decide, fun d2 H7 e0 e1 s7 => ?_⟩
        have hd : d2.toNat < letters.cps.toList.length := by
          have : letters.cps.toList.length = 26 := by decide +kernel
          omega
        refine ⟨letters, d2, letters.cps.toList[d2.toNat], rfl, rfl, by decide +kernel, (congrArg (atI letters.cps.toList) (show d2 = ((d2.toNat : Nat) : Int) by omega)).trans (atI_nat (List.getElem?_eq_getElem hd)), ?_⟩
        exact q _ _ s7 ⟨_, List.getElem_mem _, rfl⟩
      · obtain ⟨cs, rfl, hcs⟩ := signs_of hr
        have lc : cs.length = (1 + d).toNat := by rw [← hl, List.length_map, List.length_map]
        refine ⟨"", D, cs.map sg, rfl, rfl, .inl (SqL.of hD), ?_, ?_⟩
        · rw [sum_sg, List.length_map]
          show cs.length + cs.length * 0 ≤ _
          omega
        have wz : Wd (Txt.join "" (cs.map sg)) := by
          unfold Wd
          rw [joined]
          exact ⟨by omega, by omega, hcs⟩
        generalize Txt.join "" (cs.map sg) = z at wz
        have t4 := t3.trans sm
        walk_at "rd"
        intro l2 nl2
        have t5 := t4.trans (Same.new (o := .lst [V.str z]) nl2)
        refine ⟨_, rfl, letters, rfl, fun D2 nD2 => ?_⟩
        refine lc_pure walk_str nD2 (by decide +kernel) (fun _ _ => trivial) (fun i y => ∃ c, letters.cps.toList[i]? = some c ∧ y = .str (vary z c)) (fun i x H6 H7 Kn Z hi sm6 y q => ?_) (fun H6 ys sm6 hD2 hl2 hr2 => ?_)
        · obtain ⟨rfl, c, hc, rfl⟩ := y
          refine ⟨rfl, ?_⟩
          walk_at "rd"
          have hc2 : letters.cps.toList[i]? = some c := by rw [Array.getElem?_toList]; exact hc
          have lv := (wz.vary (List.mem_of_getElem? hc2)).len
          have le : (vary z c).length = (cutS z none (some 7)).length + (sg c).length := strLen_append _ _
          refine ⟨Nat.le_trans wz.len (by decide), _, rfl, cutS z none (some 7), sg c, rfl, rfl, Nat.le_trans (m := 8) (by omega) (by decide), q _ _ (Same.refl _) ⟨c, hc2, rfl⟩⟩
        · obtain rfl := vals_of_at (cs := letters.cps.toList) (f := vary z) hl2 hr2
          have t6 := t5.trans sm6
          have h2 : H6 l2 = some (.lst [V.str z]) := sm6 _ _ upd_same
          refine ⟨l2, D2, [V.str z], _, rfl, rfl, h2, hD2, ?_, fun l3 nl3 => ?_⟩
          · rw [List.length_map, List.length_map]
            show 1 + letters.cps.toList.length ≤ sizeLine
            decide +kernel
          have v6 : L2.Same H2 H6 := (Same.new nl).trans (s3.trans (s4.trans (sm.trans ((Same.new nl2).trans sm6))))
          have s7 : L2.Same H6 (upd H6 l3 (.lst ([V.str z] ++ (letters.cps.toList.map (vary z)).map V.str))) := Same.new nl3
          have h7 : (upd H6 l3 (.lst ([V.str z] ++ (letters.cps.toList.map (vary z)).map V.str))) l3 = some (.lst ((fresh z).map V.str)) := upd_same
          generalize upd H6 l3 (.lst ([V.str z] ++ (letters.cps.toList.map (vary z)).map V.str)) = H7 at s7 h7
          have t7 := t6.trans s7
          have ho7 : H7 o = some (.lst (ns.map V.str)) := s7 _ _ (v6 _ _ ho)
          refine ⟨_, rfl, ty_lst ho7, ?_⟩
          refine ⟨_, rfl, l3, rfl, ⟨_, SqL.of h7⟩, fun D4 nD4 => ?_⟩
          refine lc_it (walk_list (xs := (fresh z).map V.str)) (fun i H' => L2.Same H7 H' ∧ H' D4 = some (.lst ((((fresh z).take i).filter (fun x => !decide (x ∈ ns))).map V.str))) ⟨Same.new nD4, upd_same⟩ (fun i H' _ q => SqL.of (q.1 _ _ h7)) (fun i x H8 H9 hi q y => ?_) (fun H8 q => ?_)
          · obtain ⟨s8, h8⟩ := q
            obtain ⟨rfl, hx⟩ := y
            rw [List.getElem?_map] at hx
            obtain ⟨w', hw, rfl⟩ := Option.map_eq_some_iff.mp hx
            refine ⟨rfl, ?_⟩
            have tk : (fresh z).take (i + 1) = (fresh z).take i ++ [w'] := by rw [List.take_add_one, hw]; rfl
            refine ⟨_, rfl, _, rfl, o, ns.map V.str, rfl, .inl (SqL.of (s8 _ _ ho7)), rfl, flat_str ns, _, rfl, ?_⟩
            rw [inV_str]
            refine ite2 (fun c => ?_) (fun c => ?_)
            · refine ⟨_, rfl, _, h8, ?_, Same.mut s8 nD4, ?_⟩
              · rw [List.length_map]
                refine Nat.lt_of_le_of_lt (List.length_filter_le _ _) (Nat.lt_of_le_of_lt (List.length_take_le' _ _) ?_)
                show (letters.cps.toList.map (vary z)).length + 1 < sizeLine
                rw [List.length_map]; decide +kernel
              · rw [tk, List.filter_append, List.map_append]
                have e : [w'].filter (fun x => !decide (x ∈ ns)) = [w'] := by
                  have c : (!decide (w' ∈ ns)) = true := c
                  simp only [List.filter, c]
                rw [e]; exact upd_same
            · refine ⟨s8, ?_⟩
              rw [tk, List.filter_append]
              have e : [w'].filter (fun x => !decide (x ∈ ns)) = [] := by
                have c : (!decide (w' ∈ ns)) = false := Bool.eq_false_iff.mpr c
                simp only [List.filter, c]
              rw [e, List.append_nil]; exact h8
          · obtain ⟨s8, h8⟩ := q
            rw [List.length_map, List.take_length] at h8
            have ne := fresh_some (z := z) (found := ns) (by omega)
            generalize hf : (fresh z).filter (fun x => !decide (x ∈ ns)) = ff at ne h8
            cases ff with
            | nil => exact (ne rfl).elim
            | cons w' rest =>
              have hm : w' ∈ (fresh z).filter (fun x => !decide (x ∈ ns)) := by rw [hf]; exact List.mem_cons_self ..
              obtain ⟨m1, m2⟩ := List.mem_filter.mp hm
              have m3 : ¬ w' ∈ ns := fun z => by rw [decide_eq_true z] at m2; cases m2
              refine ⟨D4, _, 0, .str w', rfl, rfl, SqL.of h8, (show atI _ ((0 : Nat) : Int) = _ from atI_nat rfl), ?_⟩
              refine ⟨o, ns.map V.str, .str w', rfl, rfl, s8 _ _ ho7, ?_, ?_⟩
              · rw [List.length_map]; exact Nat.lt_of_le_of_lt (m := 10) (by omega) (by decide)
              refine ⟨_, _, _, _, _, _, ns ++ [w'], rfl, Same.mut (t7.trans s8) no, ?_, ⟨?_, ?_⟩, ?_⟩
              · rw [List.map_append]; exact upd_same
              · rw [List.nodup_append]
                refine ⟨ok.nd, List.pairwise_singleton _ _, fun a ha b hb q => ?_⟩
                rw [List.mem_singleton] at hb
                subst hb; subst q
                exact m3 ha
              · intro x hx
                rcases List.mem_append.mp hx with hx | hx
                · exact ok.ok x hx
                · rw [List.mem_singleton.mp hx]; exact fresh_wd wz _ m1
              · rw [List.length_append, ln]; rfl
    · obtain ⟨a4, a5, a6, a7, a8, a9, ns, rfl, s1, ho, ok, ln⟩ := hP
      refine ⟨_, rfl, ?_⟩
      exact k o ns H1 s1 no ho ok (by omega)
end
end K11

set_option Elab.async false
set_option linter.all false
set_option maxRecDepth 100000
set_option maxHeartbeats 4000000
namespace K11
open PySem L2 Lay Own SrtO
local macro_rules | `(tactic| walk_at "ne") => `(tactic| first | assumption | (apply Ne.symm; assumption) | exact ne_of_none (by walk_at "look") (by assumption) | exact (ne_of_none (by walk_at "look") (by assumption)).symm)
local macro_rules | `(tactic| walk_at "look") => `(tactic| first | assumption | exact upd_same | (refine Eq.trans (upd_ne ?_) ?_; walk_at "ne"; walk_at "look"))
local macro_rules | `(tactic| walk_at "rds") => `(tactic| first | rfl | assumption | walk_at "look" | exact SqL.of (by walk_at "look") | exact SqT.of (by walk_at "look") | exact Or.inl (SqL.of (by walk_at "look")) | exact Or.inl (by assumption) | decide | omega | exact Nat.le_of_ble_eq_true rfl | exact Or.inr ⟨by decide, by decide⟩ | exact Or.inl ⟨by omega, by omega⟩ | exact ⟨by decide, by decide⟩)
local macro_rules | `(tactic| walk_at "rd1") => `(tactic| first | (apply Exists.intro) | (refine And.intro ?_ ?_; walk_at "rds") | (refine Or.inl ?_; apply Exists.intro; refine And.intro ?_ ?_; rfl))
local macro_rules | `(tactic| walk_at "rd") => `(tactic| repeat walk_at "rd1")
section
variable {P : Program} {w : World} {K : PySem.W.Frag} {mg : Str → Option Value} {base : Heap}
/-! the law's normed -/
def spLNrm (K : PySem.W.Frag) : Sp := fun vs H Q _ => ∃ a xs es, vs = [.ref a] ∧ H a = some (.lst xs) ∧ EL H xs es ∧ 0 < es.length ∧ es.length ≤ 64 ∧
  ∀ p zs fs H', L2.Same H H' → H p = none → H' p = some (.lst zs) → EL H' zs fs → Nrm es fs → Q (.ref p) H'
theorem d_lnormed (T : Txt K mg) : Df P w K mg base 1 "_law_normed" ["_law_some"] (spLNrm K) := by
  refine T.S_l_normed.by sc_l_normed (fun vs H Q E h => ?_) (fun f cdv A outer s H vs Q E hr hgd h => ?_)
  · obtain ⟨a, xs, es, rfl, _⟩ := h; rfl
  · obtain ⟨a, xs, es, rfl, ha, el, l0, l1, k⟩ := h
    refine ⟨_, (pss_cons (ps_asg (pe_tup (pa_cons (pe_callB  (cr_min rfl) (by rfl) T.n_min (by decide +kernel) (pa_cons (pe_lc (own := [("_law_part", 3)]) rfl sc_l_normed.nd (pi_list (pv 0)) (blkOk_by (own := [("_law_part", 3)]) (N := ["_law_some", "_law_left", "_law_low", "_law_part"]) (sc := defScope s_l_normed) (by decide +kernel)) (fun _ _ _ _ _ => (pg_name (i := 3) sc_l_normed.nd rfl (by first | exact Or.inl rfl | exact Or.inr rfl))) (fun _ _ _ _ _ => pts_nil) (fun _ _ _ _ _ => (pe_ix  (ix_tupK (C := K) rfl) (pv 3) pe_int (fun _ _ => rfl)))) pa_nil)) (pa_cons (pe_callB  (cr_min rfl) (by rfl) T.n_min (by decide +kernel) (pa_cons (pe_lc (own := [("_law_part", 3)]) rfl sc_l_normed.nd (pi_list (pv 0)) (blkOk_by (own := [("_law_part", 3)]) (N := ["_law_some", "_law_left", "_law_low", "_law_part"]) (sc := defScope s_l_normed) (by decide +kernel)) (fun _ _ _ _ _ => (pg_name (i := 3) sc_l_normed.nd rfl (by first | exact Or.inl rfl | exact Or.inr rfl))) (fun _ _ _ _ _ => pts_nil) (fun _ _ _ _ _ => (pe_ix  (ix_tupK (C := K) rfl) (pv 3) pe_int (fun _ _ => rfl)))) pa_nil)) pa_nil))) (pg_tup rfl (pgs_cons (pg_name (i := 1) sc_l_normed.nd rfl (by first | exact Or.inl rfl | exact Or.inr rfl)) (pgs_cons (pg_name (i := 2) sc_l_normed.nd rfl (by first | exact Or.inl rfl | exact Or.inr rfl)) pgs_nil))))
      (pss_one (ps_ret (pe_callB  cr_sortE (by rfl) T.n_sorted (by decide +kernel) (pa_cons (pe_lc (own := [("_law_part", 3)]) rfl sc_l_normed.nd (pi_list (pv 0)) (blkOk_by (own := [("_law_part", 3)]) (N := ["_law_some", "_law_left", "_law_low", "_law_part"]) (sc := defScope s_l_normed) (by decide +kernel)) (fun _ _ _ _ _ => (pg_name (i := 3) sc_l_normed.nd rfl (by first | exact Or.inl rfl | exact Or.inr rfl))) (fun _ _ _ _ _ => pts_nil) (fun _ _ _ _ _ => (pe_tup (pa_cons (pe_op op_sub (pe_ix  (ix_tupK (C := K) rfl) (pv 3) pe_int (fun _ _ => rfl)) (pv 1)) (pa_cons (pe_op op_sub (pe_ix  (ix_tupK (C := K) rfl) (pv 3) pe_int (fun _ _ => rfl)) (pv 2)) (pa_cons (pe_ix  (ix_tupK (C := K) rfl) (pv 3) pe_int (fun _ _ => rfl)) pa_nil)))))) pa_nil))))), ?_⟩
    have ln := el.len
    refine ⟨_, rfl, a, rfl, ⟨_, SqL.of ha⟩, fun D nD => ?_⟩
    refine lc_pure (walk_list (xs := xs)) nD (by omega) (fun _ sm => SqL.of (sm _ _ ha)) (fun i y => ∃ e, es[i]? = some e ∧ y = .int e.1) (fun i x H4 H5 Kn Z hi sm y q => ?_) (fun H4 ys sm hD hl hr => ?_)
    · obtain ⟨rfl, hx⟩ := y
      obtain ⟨e, he, t, rfl, ht⟩ := el.at hx
      have ht' := sm _ _ ht
      walk_at "rd"
      exact q _ _ (Same.refl _) ⟨e, he, rfl⟩
    · obtain rfl := ints_of (hl.trans ln) hr
      refine ⟨D, es.map (·.1), rfl, SqL.of hD, by rw [List.length_map]; exact l0, fun lo hm hle => ?_⟩
      refine ⟨_, rfl, a, rfl, ⟨_, SqL.of (sm _ _ ha)⟩, fun D2 nD2 => ?_⟩
      refine lc_pure (walk_list (xs := xs)) nD2 (by omega) (fun _ sm2 => SqL.of (sm2 _ _ (sm _ _ ha))) (fun i y => ∃ e, es[i]? = some e ∧ y = .int e.2.1) (fun i x H5 H6 Kn Z hi sm2 y q => ?_) (fun H5 ys sm2 hD2 hl2 hr2 => ?_)
      · obtain ⟨rfl, hx⟩ := y
        obtain ⟨e, he, t, rfl, ht⟩ := el.at hx
        have ht' := sm2 _ _ (sm _ _ ht)
        walk_at "rd"
        exact q _ _ (Same.refl _) ⟨e, he, rfl⟩
      · obtain rfl := ints_of (hl2.trans ln) hr2
        refine ⟨D2, es.map (·.2.1), rfl, SqL.of hD2, by rw [List.length_map]; exact l0, fun bo hm2 hle2 => ?_⟩
        have s2 := sm.trans sm2
        refine ⟨by show (2 : Nat) ≤ sizeLine; decide +kernel, fun t nt => ?_⟩
        have s3 := s2.trans (Same.new (o := .tup [V.int lo, V.int bo]) nt)
        refine ⟨t, _, rfl, SqT.of upd_same, rfl, _, _, rfl, _, _, rfl, rfl, ?_⟩
        refine ⟨_, rfl, a, rfl, ⟨_, SqL.of (s3 _ _ ha)⟩, fun D3 nD3 => ?_⟩
        refine lc_depI (walk_list (xs := xs)) nD3 (by omega) (fun _ sm3 => SqL.of (sm3 _ _ (s3 _ _ ha))) (fun i H v => ∃ e, es[i]? = some e ∧ EntT H v (mv lo bo e)) (fun i H H' v s ⟨e, he, h⟩ => ⟨e, he, h.same s⟩) (fun i H xs ys v hD ⟨e, he, h⟩ => ⟨e, he, h.mut hD⟩) (fun i x H6 H7 Kn Z hi sm3 _ y q => ?_) (fun H6 ys sm3 hD3 hl3 hr3 => ?_)
        · obtain ⟨rfl, hx⟩ := y
          obtain ⟨e, he, u, rfl, hu⟩ := el.at hx
          have hu' := sm3 _ _ (s3 _ _ hu)
          walk_at "rd"
          exact fun p np => q _ _ (Same.new np) ⟨e, he, p, rfl, upd_same⟩
        · have s4 := s3.trans sm3
          have el3 : EL H6 ys (es.map (mv lo bo)) := el_of (hl3.trans ln) hr3
          refine ⟨D3, ys, _, rfl, SqL.of hD3, el3, fun zs fs p el4 sd pm np => ?_⟩
          exact k p zs fs _ (s4.trans (Same.new np)) (s4.free np) upd_same (el4.same (Same.new np)) ⟨lo, bo, ⟨hm, hle⟩, ⟨hm2, hle2⟩, pm, sd⟩
/-! far -/
theorem d_far (T : Txt K mg) : Df P w K mg base 1 "_law_far" ["_law_some"] (spReach K) := by
  refine T.S_l_far.by sc_l_far (fun vs H Q E h => ?_) (fun f cdv A outer s H vs Q E hr hgd h => ?_)
  · obtain ⟨a, xs, es, rfl, _⟩ := h; rfl
  · obtain ⟨a, xs, es, rfl, ha, el, l0, l1, k⟩ := h
    refine ⟨_, (pss_one (ps_ret (pe_tup (pa_cons (pe_callB  (cr_max rfl) (by rfl) T.n_max (by decide +kernel) (pa_cons (pe_lc (own := [("_law_part", 1)]) rfl sc_l_far.nd (pi_list (pv 0)) (blkOk_by (own := [("_law_part", 1)]) (N := ["_law_some", "_law_part"]) (sc := defScope s_l_far) (by decide +kernel)) (fun _ _ _ _ _ => (pg_name (i := 1) sc_l_far.nd rfl (by first | exact Or.inl rfl | exact Or.inr rfl))) (fun _ _ _ _ _ => pts_nil) (fun _ _ _ _ _ => (pe_ix  (ix_tupK (C := K) rfl) (pv 1) pe_int (fun _ _ => rfl)))) pa_nil)) (pa_cons (pe_callB  (cr_max rfl) (by rfl) T.n_max (by decide +kernel) (pa_cons (pe_lc (own := [("_law_part", 1)]) rfl sc_l_far.nd (pi_list (pv 0)) (blkOk_by (own := [("_law_part", 1)]) (N := ["_law_some", "_law_part"]) (sc := defScope s_l_far) (by decide +kernel)) (fun _ _ _ _ _ => (pg_name (i := 1) sc_l_far.nd rfl (by first | exact Or.inl rfl | exact Or.inr rfl))) (fun _ _ _ _ _ => pts_nil) (fun _ _ _ _ _ => (pe_ix  (ix_tupK (C := K) rfl) (pv 1) pe_int (fun _ _ => rfl)))) pa_nil)) pa_nil))))), ?_⟩
    have ln := el.len
    refine ⟨_, rfl, a, rfl, ⟨_, SqL.of ha⟩, fun D nD => ?_⟩
    refine lc_pure (walk_list (xs := xs)) nD (by omega) (fun _ sm => SqL.of (sm _ _ ha)) (fun i y => ∃ e, es[i]? = some e ∧ y = .int e.1) (fun i x H4 H5 Kn Z hi sm y q => ?_) (fun H4 ys sm hD hl hr => ?_)
    · obtain ⟨rfl, hx⟩ := y
      obtain ⟨e, he, t, rfl, ht⟩ := el.at hx
      have ht' := sm _ _ ht
      walk_at "rd"
      exact q _ _ (Same.refl _) ⟨e, he, rfl⟩
    · obtain rfl := ints_of (hl.trans ln) hr
      refine ⟨D, es.map (·.1), rfl, SqL.of hD, by rw [List.length_map]; exact l0, fun m hm hle => ?_⟩
      refine ⟨_, rfl, a, rfl, ⟨_, SqL.of (sm _ _ ha)⟩, fun D2 nD2 => ?_⟩
      refine lc_pure (walk_list (xs := xs)) nD2 (by omega) (fun _ sm2 => SqL.of (sm2 _ _ (sm _ _ ha))) (fun i y => ∃ e, es[i]? = some e ∧ y = .int e.2.1) (fun i x H5 H6 Kn Z hi sm2 y q => ?_) (fun H5 ys sm2 hD2 hl2 hr2 => ?_)
      · obtain ⟨rfl, hx⟩ := y
        obtain ⟨e, he, t, rfl, ht⟩ := el.at hx
        have ht' := sm2 _ _ (sm _ _ ht)
        walk_at "rd"
        exact q _ _ (Same.refl _) ⟨e, he, rfl⟩
      · obtain rfl := ints_of (hl2.trans ln) hr2
        refine ⟨D2, es.map (·.2.1), rfl, SqL.of hD2, by rw [List.length_map]; exact l0, fun m2 hm2 hle2 => ?_⟩
        refine ⟨by show (2 : Nat) ≤ sizeLine; decide +kernel, fun p np => ?_⟩
        exact k p m m2 _ ((sm.trans sm2).trans (Same.new np)) ((sm.trans sm2).free np) upd_same ⟨hm, hle⟩ ⟨hm2, hle2⟩
/-! mixed -/
theorem sIx_of {d : Int} {n : Nat} (h0 : 0 ≤ d) (h1 : d < n) : seqIndex? d n = some d.toNat := by
  unfold seqIndex?
  have e : ¬ d < 0 := by omega
  simp [e, h0, h1]
theorem erase_perm {α : Type} : ∀ {l : List α} {k : Nat} (h : k < l.length), (l[k] :: l.eraseIdx k).Perm l
  | a :: l, 0, _ => List.Perm.refl _
  | a :: l, k + 1, h => by
    have ih := erase_perm (l := l) (k := k) (by simpa using h)
    show ((a :: l)[k + 1] :: a :: l.eraseIdx k).Perm (a :: l)
    exact (List.Perm.swap _ _ _).trans (List.Perm.cons _ ih)
def spMix (K : PySem.W.Frag) : Sp := fun vs H Q _ => ∃ p a xs es, vs = [.ref p, .ref a] ∧ H p = some (PotO p) ∧ H a = some (.lst xs) ∧ EL H xs es ∧ es.length ≤ 64 ∧
  ∀ l zs fs H', L2.Same H H' → H l = none → H' l = some (.lst zs) → EL H' zs fs → fs.Perm es → Q (.ref l) H'
theorem d_mixed (T : Txt K mg) : Df P w K mg base 2 "_law_mixed" ["_law_pot_here", "_law_some"] (spMix K) := by
  have D_l_draw := d_draw (P := P) (w := w) (base := base) T
  refine T.S_l_mixed.by sc_l_mixed (fun vs H Q E h => ?_) (fun f cdv A outer s H vs Q E hr hgd h => ?_)
  · obtain ⟨p, a, xs, es, rfl, _⟩ := h; rfl
  · obtain ⟨p, a, xs, es, rfl, hp, ha, el, l1, k⟩ := h
    refine ⟨_, (pss_cons (ps_par (i := 2) (j := 3) rfl sc_l_mixed.nd rfl rfl (by decide) rfl rfl (pa_cons (pe_callTy call_list_of (by rfl) T.n_list (by decide +kernel) (pa_cons (pv 1) pa_nil)) (pa_cons (pe_lst pa_nil) pa_nil)) (by first | rfl | with_unfolding_all rfl))
      (pss_cons (ps_for PassesOwn.never rfl (pi_range1 (by rfl) T.n_range (pa_cons (pe_callB call_len_seq (by rfl) T.n_len PySem.boot_len (pa_cons (pv 1) pa_nil)) pa_nil)) (pg_name (i := 4) sc_l_mixed.nd rfl (by first | exact Or.inl rfl | exact Or.inr rfl)) (pss_one (ps_expr (pe_bm PySem.F.plainAttrs_list PySem.F.slot_list_append PySem.F.type_list_append mt_append (pv 3) (pa_cons (pe_bm PySem.F.plainAttrs_list PySem.F.slot_list_pop PySem.F.type_list_pop mt_popAt (pv 2) (pa_cons (pe_own D_l_draw (hr.mono (by first | decide | omega)) hgd (pa_cons (pv 0) (pa_cons (pe_callB call_len_seq (by rfl) T.n_len PySem.boot_len (pa_cons (pv 2) pa_nil)) pa_nil))) pa_nil)) pa_nil)))))
      (pss_one (ps_ret (pv 3))))), ?_⟩
    have ln := el.len
    refine ⟨_, rfl, a, xs, rfl, .inl (SqL.of ha), fun b nb => ?_⟩
    walk_at "rd"
    intro o no
    refine ⟨_, _, rfl, ?_⟩
    have ob : o ≠ b := fun z => by rw [z, upd_same] at no; cases no
    have no' : H o = none := by rw [upd_ne ob] at no; exact no
    have s0 : L2.Same H (upd (upd H b (.lst xs)) o (.lst [])) := (Same.new nb).trans (Same.new no)
    have b0 : (upd (upd H b (.lst xs)) o (.lst [])) b = some (.lst xs) := by rw [upd_ne (Ne.symm ob)]; exact upd_same
    refine ⟨_, rfl, a, xs, rfl, .inl (SqL.of (s0 _ _ ha)), xs.length, rfl, by omega, by omega, ?_⟩
    refine for_it walk_range (fun i σ H' => ∃ (a4 : Option V) (ls fs : List V), σ = [some (.ref p), some (.ref a), some (.ref b), some (.ref o), a4] ∧ L2.Same H H' ∧ H' b = some (.lst ls) ∧ H' o = some (.lst fs) ∧ (ls ++ fs).Perm xs ∧ fs.length = i)
      ⟨_, xs, [], rfl, s0, b0, upd_same, by rw [List.append_nil], rfl⟩ (fun _ _ _ _ _ => trivial) (fun i x σ H1 H2 hi hP y => ?_) (fun σ H1 hP => ?_)
    · obtain ⟨a4, ls, fs, rfl, s1, hb, ho, pm, lf⟩ := hP
      obtain ⟨rfl, rfl⟩ := y
      have l := pm.length_eq
      rw [List.length_append] at l
      refine ⟨_, rfl, ty_lst ho, _, rfl, ty_lst hb, _, rfl, _, rfl, b, ls, rfl, .inl (SqL.of hb), p, ls.length, rfl, s1 _ _ hp, by omega, Int.lt_of_le_of_lt (b := 64) (by omega) (by decide), fun d H3 d0 d1 s3 => ?_⟩
      have hk : d.toNat < ls.length := by omega
      refine ⟨b, ls, d, d.toNat, ls[d.toNat], rfl, rfl, s3 _ _ hb, by omega, by omega, sIx_of d0 d1, List.getElem?_eq_getElem hk, ?_⟩
      have ho3 : upd H3 b (.lst (ls.eraseIdx d.toNat)) o = some (.lst fs) := by rw [upd_ne ob]; exact s3 _ _ ho
      refine ⟨o, fs, _, rfl, rfl, ho3, Nat.lt_of_le_of_lt (m := 64) (by omega) (by decide), ?_⟩
      refine ⟨_, ls.eraseIdx d.toNat, fs ++ [ls[d.toNat]], rfl, Same.mut (Same.mut (s1.trans s3) nb) no', by rw [upd_ne (Ne.symm ob)]; exact upd_same, upd_same, ?_, by rw [List.length_append, lf]; rfl⟩
      have e1 := erase_perm hk
      have e2 : (ls.eraseIdx d.toNat ++ (fs ++ [ls[d.toNat]])).Perm ((ls[d.toNat] :: ls.eraseIdx d.toNat) ++ fs) := by
        rw [← List.append_assoc]
        exact List.perm_append_comm
      exact e2.trans ((e1.append (List.Perm.refl fs)).trans pm)
    · obtain ⟨a4, ls, fs, rfl, s1, hb, ho, pm, lf⟩ := hP
      have l := pm.length_eq
      rw [List.length_append] at l
      have e : ls = [] := List.eq_nil_of_length_eq_zero (by omega)
      rw [e, List.nil_append] at pm
      obtain ⟨el2, pm2⟩ := el.perm pm
      refine ⟨_, rfl, ?_⟩
      exact k o fs _ H1 s1 no' ho (el2.same s1) pm2
end
end K11

set_option Elab.async false
set_option linter.all false
set_option maxRecDepth 100000
set_option maxHeartbeats 4000000
namespace K11
open PySem L2 Lay Own SrtO
local macro_rules | `(tactic| walk_at "ne") => `(tactic| first | assumption | (apply Ne.symm; assumption) | exact ne_of_none (by walk_at "look") (by assumption) | exact (ne_of_none (by walk_at "look") (by assumption)).symm)
local macro_rules | `(tactic| walk_at "look") => `(tactic| first | assumption | exact upd_same | (refine Eq.trans (upd_ne ?_) ?_; walk_at "ne"; walk_at "look"))
local macro_rules | `(tactic| walk_at "rds") => `(tactic| first | rfl | assumption | walk_at "look" | exact SqL.of (by walk_at "look") | exact SqT.of (by walk_at "look") | exact Or.inl (SqL.of (by walk_at "look")) | exact Or.inl (by assumption) | decide | omega | exact Nat.le_of_ble_eq_true rfl | exact Or.inr ⟨by decide, by decide⟩ | exact Or.inl ⟨by omega, by omega⟩ | exact ⟨by decide, by decide⟩)
local macro_rules | `(tactic| walk_at "rd1") => `(tactic| first | (apply Exists.intro) | (refine And.intro ?_ ?_; walk_at "rds") | (refine Or.inl ?_; apply Exists.intro; refine And.intro ?_ ?_; rfl))
local macro_rules | `(tactic| walk_at "rd") => `(tactic| repeat walk_at "rd1")
section
variable {P : Program} {w : World} {K : PySem.W.Frag} {mg : Str → Option Value} {base : Heap}
/-! passed -/
def sh (u v : Int) (e : Ent) : Ent := (e.1 + u, e.2.1 + v, e.2.2)
def spPas (K : PySem.W.Frag) : Sp := fun vs H Q _ => ∃ p a xs es, vs = [.ref p, .ref a] ∧ H p = some (PotO p) ∧ H a = some (.lst xs) ∧ EL H xs es ∧ es.length ≤ 64 ∧
  ∀ l zs gs u v H', L2.Same H H' → H l = none → H' l = some (.lst zs) → EL H' zs gs → -20 ≤ u → u ≤ 17 → -20 ≤ v → v ≤ 17 → gs.Perm (es.map (sh u v)) → Q (.ref l) H'
theorem d_passed (T : Txt K mg) : Df P w K mg base 3 "_law_passed" ["_law_pot_here", "_law_some"] (spPas K) := by
  have D_l_draw := d_draw (P := P) (w := w) (base := base) T
  have D_l_mixed := d_mixed (P := P) (w := w) (base := base) T
  refine T.S_l_passed.by sc_l_passed (fun vs H Q E h => ?_) (fun f cdv A outer s H vs Q E hr hgd h => ?_)
  · obtain ⟨p, a, xs, es, rfl, _⟩ := h; rfl
  · obtain ⟨p, a, xs, es, rfl, hp, ha, el, l1, k⟩ := h
    refine ⟨_, (pss_cons (ps_asg (pe_tup (pa_cons (pe_op op_sub (pe_own D_l_draw (hr.mono (by first | decide | omega)) hgd (pa_cons (pv 0) (pa_cons pe_int pa_nil))) pe_int) (pa_cons (pe_op op_sub (pe_own D_l_draw (hr.mono (by first | decide | omega)) hgd (pa_cons (pv 0) (pa_cons pe_int pa_nil))) pe_int) pa_nil))) (pg_tup rfl (pgs_cons (pg_name (i := 2) sc_l_passed.nd rfl (by first | exact Or.inl rfl | exact Or.inr rfl)) (pgs_cons (pg_name (i := 3) sc_l_passed.nd rfl (by first | exact Or.inl rfl | exact Or.inr rfl)) pgs_nil))))
      (pss_one (ps_ret (pe_lc (own := [("_law_part", 4)]) rfl sc_l_passed.nd (pi_list (pe_own D_l_mixed (hr.mono (by first | decide | omega)) hgd (pa_cons (pv 0) (pa_cons (pv 1) pa_nil)))) (blkOk_by (own := [("_law_part", 4)]) (N := ["_law_pot_here", "_law_some", "_law_across", "_law_up", "_law_part"]) (sc := defScope s_l_passed) (by decide +kernel)) (fun _ _ _ _ _ => (pg_name (i := 4) sc_l_passed.nd rfl (by first | exact Or.inl rfl | exact Or.inr rfl))) (fun _ _ _ _ _ => pts_nil) (fun _ _ _ _ _ => (pe_tup (pa_cons (pe_op op_add (pe_ix  (ix_tupK (C := K) rfl) (pv 4) pe_int (fun _ _ => rfl)) (pv 2)) (pa_cons (pe_op op_add (pe_ix  (ix_tupK (C := K) rfl) (pv 4) pe_int (fun _ _ => rfl)) (pv 3)) (pa_cons (pe_ix  (ix_tupK (C := K) rfl) (pv 4) pe_int (fun _ _ => rfl)) pa_nil))))))))), ?_⟩
    refine ⟨_, rfl, p, 38, rfl, hp, by decide, by decide, fun d H1 d0 d1 s1 => ?_⟩
    refine ⟨d, 20, rfl, rfl, ?_⟩
    refine ⟨_, rfl, p, 38, rfl, s1 _ _ hp, by decide, by decide, fun d2 H2 e0 e1 s2 => ?_⟩
    refine ⟨d2, 20, rfl, rfl, ?_⟩
    refine ⟨by show (2 : Nat) ≤ sizeLine; decide +kernel, fun t nt => ?_⟩
    refine ⟨t, _, rfl, SqT.of upd_same, rfl, _, _, rfl, _, _, rfl, rfl, ?_⟩
    have s3 : L2.Same H (upd H2 t (.tup [V.int (d - 20), V.int (d2 - 20)])) := (s1.trans s2).trans (Same.new nt)
    refine ⟨_, rfl, _, rfl, p, a, xs, es, rfl, s3 _ _ hp, s3 _ _ ha, el.same s3, l1, fun b zs fs H4 s4 nb hb elf pm => ?_⟩
    have s5 := s3.trans s4
    have lf := pm.length_eq
    have lz := elf.len
    refine ⟨b, rfl, ⟨_, SqL.of hb⟩, fun D nD => ?_⟩
    refine lc_depI (walk_list (xs := zs)) nD (by omega) (fun _ sm => SqL.of (sm _ _ hb)) (fun i H v => ∃ e, fs[i]? = some e ∧ EntT H v (sh (d - 20) (d2 - 20) e)) (fun i H H' v s ⟨e, he, h⟩ => ⟨e, he, h.same s⟩) (fun i H xs ys v hD ⟨e, he, h⟩ => ⟨e, he, h.mut hD⟩) (fun i x H6 H7 Kn Z hi sm _ y q => ?_) (fun H6 ys sm hD hl hr3 => ?_)
    · obtain ⟨rfl, hx⟩ := y
      obtain ⟨e, he, u, rfl, hu⟩ := elf.at hx
      have hu' := sm _ _ hu
      walk_at "rd"
      exact fun p np => q _ _ (Same.new np) ⟨e, he, p, rfl, upd_same⟩
    · have el3 : EL H6 ys (fs.map (sh (d - 20) (d2 - 20))) := el_of (hl.trans lz) hr3
      exact k D ys _ (d - 20) (d2 - 20) H6 (s5.trans sm) (s5.free nD) hD el3 (by omega) (by omega) (by omega) (by omega) (pm.map _)
/-! kind -/
theorem make_ok (T : Txt K mg) {H : Hp} {xs : List V} {es : List Ent} {Q : VK} (el : EL H xs es) (ok : EsOk es) (le : ∀ fs m1 m2, Kn es fs m1 m2 → m1 ≤ 3 ∧ m2 ≤ 3)
    (k : ∀ x fs m1 m2 H', L2.Same H H' → H x = none → KindAt K H' x fs m1 m2 → Kn es fs m1 m2 → Q (.ref x) H') (x dx : Addr) (nx : H x = none) (nd : H dx = none) (ne : dx ≠ x) :
    ∃ ws rest, V.ref x :: xs = ws ++ rest ∧ ws.length = ["self"].length ∧ rest.length ≤ sizeLine ∧ ∀ p, (upd (upd H dx (.own x)) x (.ins (kc K) dx [])) p = none →
      spIni K (ws ++ [V.ref p]) (upd (upd (upd H dx (.own x)) x (.ins (kc K) dx [])) p (.tup rest)) (fun v H2 => v = .non ∧ Q (.ref x) H2) E0 := by
  have ln := el.len
  have l1 := ok.l1
  refine ⟨[.ref x], xs, rfl, rfl, Nat.le_trans (m := 6) (by omega) (by decide), fun p np => ?_⟩
  have s2 : L2.Same H (upd (upd H dx (.own x)) x (.ins (kc K) dx [])) := Same.made nx nd fun b o e _ => e
  have s3 := Same.new (o := .tup xs) np
  have s4 := s2.trans s3
  refine ⟨x, dx, p, xs, es, rfl, s3 _ _ upd_same, s3 _ _ ?_, upd_same, el.same s4, ok, le, fun fs m1 m2 H' keep kd kn => ?_⟩
  · rw [upd_ne ne]; exact upd_same
  · refine ⟨rfl, k x fs m1 m2 H' (fun b o hb => ?_) nx kd kn⟩
    exact keep b o (s4 _ _ hb) fun z => by
      subst z
      rw [hb] at nx
      cases nx
theorem len2 {α : Type} {l : List α} (h : l.length = 2) : ∃ a b, l = [a, b] := by
  match l, h with
  | [a, b], _ => exact ⟨a, b, rfl⟩
theorem len3 {α : Type} {l : List α} (h : l.length = 3) : ∃ a b c, l = [a, b, c] := by
  match l, h with
  | [a, b, c], _ => exact ⟨a, b, c, rfl⟩
theorem len4 {α : Type} {l : List α} (h : l.length = 4) : ∃ a b c d, l = [a, b, c, d] := by
  match l, h with
  | [a, b, c, d], _ => exact ⟨a, b, c, d, rfl⟩
theorem len5 {α : Type} {l : List α} (h : l.length = 5) : ∃ a b c d e, l = [a, b, c, d, e] := by
  match l, h with
  | [a, b, c, d, e], _ => exact ⟨a, b, c, d, e, rfl⟩
theorem len6 {α : Type} {l : List α} (h : l.length = 6) : ∃ a b c d e f, l = [a, b, c, d, e, f] := by
  match l, h with
  | [a, b, c, d, e, f], _ => exact ⟨a, b, c, d, e, f, rfl⟩
theorem decV {i j : Int} : decide (V.int i = V.int j) = decide (i = j) := by
  by_cases h : i = j
  · rw [h]; simp
  · rw [decide_eq_false h]; exact decide_eq_false fun z => h (V.int.inj z)
def spKd (K : PySem.W.Frag) : Sp := fun vs H Q _ => ∃ a xs es, vs = [.ref a] ∧ H a = some (.lst xs) ∧ EL H xs es ∧ EsOk es ∧ (∀ fs m1 m2, Kn es fs m1 m2 → m1 ≤ 3 ∧ m2 ≤ 3) ∧
  ∀ x fs m1 m2 H', L2.Same H H' → H x = none → KindAt K H' x fs m1 m2 → Kn es fs m1 m2 → Q (.ref x) H'
theorem d_kind (T : Txt K mg) : Df P w K mg base 9 "_law_kind" ["_law_some"] (spKd K) := by
  refine T.S_l_kind.by sc_l_kind (fun vs H Q E h => ?_) (fun f cdv A outer s H vs Q E hr hgd h => ?_)
  · obtain ⟨a, xs, es, rfl, _⟩ := h; rfl
  · obtain ⟨a, xs, es, rfl, ha, el, ok, le, k⟩ := h
    refine ⟨_, (pss_cons (ps_if (pt_cmpR op_eq (pe_callB call_len_seq (by rfl) T.n_len PySem.boot_len (pa_cons (pv 0) pa_nil)) pe_int (nomark _)) (pss_one (ps_ret (pe_makeP T.maker (d_init T) (hr.mono (by first | decide | omega)) hgd T.g_Kind (pa_cons (pe_ix ix_list (pv 0) pe_int (fun _ _ => rfl)) (pa_cons (pe_ix ix_list (pv 0) pe_int (fun _ _ => rfl)) pa_nil))))) pss_nil)
      (pss_cons (ps_if (pt_cmpR op_eq (pe_callB call_len_seq (by rfl) T.n_len PySem.boot_len (pa_cons (pv 0) pa_nil)) pe_int (nomark _)) (pss_one (ps_ret (pe_makeP T.maker (d_init T) (hr.mono (by first | decide | omega)) hgd T.g_Kind (pa_cons (pe_ix ix_list (pv 0) pe_int (fun _ _ => rfl)) (pa_cons (pe_ix ix_list (pv 0) pe_int (fun _ _ => rfl)) (pa_cons (pe_ix ix_list (pv 0) pe_int (fun _ _ => rfl)) pa_nil)))))) pss_nil)
      (pss_cons (ps_if (pt_cmpR op_eq (pe_callB call_len_seq (by rfl) T.n_len PySem.boot_len (pa_cons (pv 0) pa_nil)) pe_int (nomark _)) (pss_one (ps_ret (pe_makeP T.maker (d_init T) (hr.mono (by first | decide | omega)) hgd T.g_Kind (pa_cons (pe_ix ix_list (pv 0) pe_int (fun _ _ => rfl)) (pa_cons (pe_ix ix_list (pv 0) pe_int (fun _ _ => rfl)) (pa_cons (pe_ix ix_list (pv 0) pe_int (fun _ _ => rfl)) (pa_cons (pe_ix ix_list (pv 0) pe_int (fun _ _ => rfl)) pa_nil))))))) pss_nil)
      (pss_cons (ps_if (pt_cmpR op_eq (pe_callB call_len_seq (by rfl) T.n_len PySem.boot_len (pa_cons (pv 0) pa_nil)) pe_int (nomark _)) (pss_one (ps_ret (pe_makeP T.maker (d_init T) (hr.mono (by first | decide | omega)) hgd T.g_Kind (pa_cons (pe_ix ix_list (pv 0) pe_int (fun _ _ => rfl)) (pa_cons (pe_ix ix_list (pv 0) pe_int (fun _ _ => rfl)) (pa_cons (pe_ix ix_list (pv 0) pe_int (fun _ _ => rfl)) (pa_cons (pe_ix ix_list (pv 0) pe_int (fun _ _ => rfl)) (pa_cons (pe_ix ix_list (pv 0) pe_int (fun _ _ => rfl)) pa_nil)))))))) pss_nil)
      (pss_one (ps_ret (pe_makeP T.maker (d_init T) (hr.mono (by first | decide | omega)) hgd T.g_Kind (pa_cons (pe_ix ix_list (pv 0) pe_int (fun _ _ => rfl)) (pa_cons (pe_ix ix_list (pv 0) pe_int (fun _ _ => rfl)) (pa_cons (pe_ix ix_list (pv 0) pe_int (fun _ _ => rfl)) (pa_cons (pe_ix ix_list (pv 0) pe_int (fun _ _ => rfl)) (pa_cons (pe_ix ix_list (pv 0) pe_int (fun _ _ => rfl)) (pa_cons (pe_ix ix_list (pv 0) pe_int (fun _ _ => rfl)) pa_nil))))))))))))), ?_⟩
    have ln := el.len
    have l0 := ok.l0
    have l1 := ok.l1
    have hs := SqL.of (K := K) ha
    refine ⟨_, rfl, a, xs, rfl, .inl hs, rfl, ?_⟩
    refine ⟨_, rfl, ?_⟩
    rw [decV]
    by_cases c2 : (xs.length : Int) = 2
    · rw [decide_eq_true c2]
      refine iteT ?_
      obtain ⟨x0, x1, rfl⟩ := len2 (show xs.length = 2 by omega)
      refine ⟨_, rfl, a, _, 0, x0, rfl, rfl, hs, rfl, _, rfl, a, _, 1, x1, rfl, rfl, hs, rfl, ?_⟩
      exact fun x dx nx nd ne => make_ok T el ok le k x dx nx nd ne
    rw [decide_eq_false c2]
    refine iteF ?_
    refine ⟨_, rfl, a, xs, rfl, .inl hs, rfl, ?_⟩
    refine ⟨_, rfl, ?_⟩
    rw [decV]
    by_cases c3 : (xs.length : Int) = 3
    · rw [decide_eq_true c3]
      refine iteT ?_
      obtain ⟨x0, x1, x2, rfl⟩ := len3 (show xs.length = 3 by omega)
      refine ⟨_, rfl, a, _, 0, x0, rfl, rfl, hs, rfl, _, rfl, a, _, 1, x1, rfl, rfl, hs, rfl, _, rfl, a, _, 2, x2, rfl, rfl, hs, rfl, ?_⟩
      exact fun x dx nx nd ne => make_ok T el ok le k x dx nx nd ne
    rw [decide_eq_false c3]
    refine iteF ?_
    refine ⟨_, rfl, a, xs, rfl, .inl hs, rfl, ?_⟩
    refine ⟨_, rfl, ?_⟩
    rw [decV]
    by_cases c4 : (xs.length : Int) = 4
    · rw [decide_eq_true c4]
      refine iteT ?_
      obtain ⟨x0, x1, x2, x3, rfl⟩ := len4 (show xs.length = 4 by omega)
      refine ⟨_, rfl, a, _, 0, x0, rfl, rfl, hs, rfl, _, rfl, a, _, 1, x1, rfl, rfl, hs, rfl, _, rfl, a, _, 2, x2, rfl, rfl, hs, rfl, _, rfl, a, _, 3, x3, rfl, rfl, hs, rfl, ?_⟩
      exact fun x dx nx nd ne => make_ok T el ok le k x dx nx nd ne
    rw [decide_eq_false c4]
    refine iteF ?_
    refine ⟨_, rfl, a, xs, rfl, .inl hs, rfl, ?_⟩
    refine ⟨_, rfl, ?_⟩
    rw [decV]
    by_cases c5 : (xs.length : Int) = 5
    · rw [decide_eq_true c5]
      refine iteT ?_
      obtain ⟨x0, x1, x2, x3, x4, rfl⟩ := len5 (show xs.length = 5 by omega)
      refine ⟨_, rfl, a, _, 0, x0, rfl, rfl, hs, rfl, _, rfl, a, _, 1, x1, rfl, rfl, hs, rfl, _, rfl, a, _, 2, x2, rfl, rfl, hs, rfl, _, rfl, a, _, 3, x3, rfl, rfl, hs, rfl, _, rfl, a, _, 4, x4, rfl, rfl, hs, rfl, ?_⟩
      exact fun x dx nx nd ne => make_ok T el ok le k x dx nx nd ne
    rw [decide_eq_false c5]
    refine iteF ?_
    obtain ⟨x0, x1, x2, x3, x4, x5, rfl⟩ := len6 (show xs.length = 6 by omega)
    refine ⟨_, rfl, a, _, 0, x0, rfl, rfl, hs, rfl, _, rfl, a, _, 1, x1, rfl, rfl, hs, rfl, _, rfl, a, _, 2, x2, rfl, rfl, hs, rfl, _, rfl, a, _, 3, x3, rfl, rfl, hs, rfl, _, rfl, a, _, 4, x4, rfl, rfl, hs, rfl, _, rfl, a, _, 5, x5, rfl, rfl, hs, rfl, ?_⟩
    exact fun x dx nx nd ne => make_ok T el ok le k x dx nx nd ne
end
end K11

set_option Elab.async false
set_option linter.all false
set_option maxRecDepth 100000
set_option maxHeartbeats 4000000
namespace K11
open PySem L2 Lay Own SrtO
structure Due (es : List Ent) : Prop where
  ok : EsOk es
  sd : Sd entLt es
  x0 : IsMin 0 (es.map (·.1))
  y0 : IsMin 0 (es.map (·.2.1))
  le : ∀ e ∈ es, e.1 ≤ 3 ∧ e.2.1 ≤ 3
  wd : ∀ e ∈ es, Wd e.2.2
theorem Wd.eok {e : Ent} (h : Wd e.2.2) (b1 : -20 ≤ e.1) (b2 : e.1 ≤ 20) (b3 : -20 ≤ e.2.1) (b4 : e.2.1 ≤ 20) : EOk e := ⟨⟨b1, b2⟩, ⟨b3, b4⟩, h.name, Nat.le_trans h.len (by decide), h.ok⟩
theorem mv_inj {lo bo : Int} {e f : Ent} (h : mv lo bo e = mv lo bo f) : e = f := by
  obtain ⟨a, b, c⟩ := e
  obtain ⟨a', b', c'⟩ := f
  simp only [mv, Prod.mk.injEq] at h
  obtain ⟨h1, h2, h3⟩ := h
  rw [show a = a' by omega, show b = b' by omega, h3]
theorem nodup_map {α β : Type} {f : α → β} (hf : ∀ a b, f a = f b → a = b) {l : List α} (h : l.Nodup) : (l.map f).Nodup := by
  rw [List.nodup_iff_pairwise_ne, List.pairwise_map]
  exact List.Pairwise.imp (fun a e => a (hf _ _ e)) h
theorem due_of {es gs : List Ent} (n : Nrm es gs) (nd : es.Nodup) (l0 : 2 ≤ es.length) (l1 : es.length ≤ 6) (b : ∀ e ∈ es, 0 ≤ e.1 ∧ e.1 ≤ 3 ∧ 0 ≤ e.2.1 ∧ e.2.1 ≤ 3 ∧ Wd e.2.2) : Due gs := by
  obtain ⟨lo, bo, ⟨hl, ml⟩, ⟨hb, mb⟩, pm, sd⟩ := n
  have len := pm.length_eq
  rw [List.length_map] at len
  obtain ⟨el, hel, e1⟩ := List.mem_map.mp hl
  obtain ⟨eb, heb, e2⟩ := List.mem_map.mp hb
  have hlo := b el hel
  have hbo := b eb heb
  have e1 : el.1 = lo := e1
  have e2 : eb.2.1 = bo := e2
  have all : ∀ g ∈ gs, 0 ≤ g.1 ∧ g.1 ≤ 3 ∧ 0 ≤ g.2.1 ∧ g.2.1 ≤ 3 ∧ Wd g.2.2 := fun g hg => by
    obtain ⟨e, he, rfl⟩ := List.mem_map.mp (pm.mem_iff.mp hg)
    have q := b e he
    have m1 := ml e.1 (List.mem_map.mpr ⟨e, he, rfl⟩)
    have m2 := mb e.2.1 (List.mem_map.mpr ⟨e, he, rfl⟩)
    refine ⟨by show 0 ≤ e.1 - lo; omega, by show e.1 - lo ≤ 3; omega, by show 0 ≤ e.2.1 - bo; omega, by show e.2.1 - bo ≤ 3; omega, q.2.2.2.2⟩
  have z1 : mv lo bo el ∈ gs := pm.mem_iff.mpr (List.mem_map.mpr ⟨el, hel, rfl⟩)
  have z2 : mv lo bo eb ∈ gs := pm.mem_iff.mpr (List.mem_map.mpr ⟨eb, heb, rfl⟩)
  refine ⟨⟨by omega, by omega, pm.nodup_iff.mpr (nodup_map (fun a c => mv_inj) nd), fun g hg => ?_⟩, sd, ⟨List.mem_map.mpr ⟨_, z1, ?_⟩, fun y hy => ?_⟩, ⟨List.mem_map.mpr ⟨_, z2, ?_⟩, fun y hy => ?_⟩, fun g hg => ?_, fun g hg => (all g hg).2.2.2.2⟩
  · have q := all g hg
    exact q.2.2.2.2.eok (by omega) (by omega) (by omega) (by omega)
  · show el.1 - lo = 0; omega
  · obtain ⟨g, hg, rfl⟩ := List.mem_map.mp hy
    exact (all g hg).1
  · show eb.2.1 - bo = 0; omega
  · obtain ⟨g, hg, rfl⟩ := List.mem_map.mp hy
    exact (all g hg).2.2.1
  · have q := all g hg
    exact ⟨q.2.1, q.2.2.2.1⟩
/-- what has been laid out of the grid -/
structure Grid (h : Int) (ns : List Str) (i j : Nat) (es : List Ent) : Prop where
  nd : es.Nodup
  len : es.length = (i * (h.toNat + 1) + j) * ns.length
  at_ : ∀ e ∈ es, 0 ≤ e.1 ∧ (e.1 < i ∨ (e.1 = i ∧ e.2.1 < j)) ∧ 0 ≤ e.2.1 ∧ e.2.1 ≤ h ∧ e.2.2 ∈ ns
theorem Grid.start {h : Int} {ns : List Str} : Grid h ns 0 0 [] := ⟨List.nodup_nil, by simp, fun e he => by cases he⟩
theorem Grid.row {h : Int} {ns : List Str} {i : Nat} {es : List Ent} (h0 : 0 ≤ h) (g : Grid h ns i (h + 1).toNat es) : Grid h ns (i + 1) 0 es := by
  have e : (h + 1).toNat = h.toNat + 1 := by omega
  refine ⟨g.nd, ?_, fun e he => ?_⟩
  · rw [g.len, e, Nat.succ_mul]; rfl
  · have q := g.at_ e he
    exact ⟨q.1, .inl (by omega), q.2.2⟩
def cellsAt (i j : Nat) (ns : List Str) : List Ent := ns.map fun z => ((i : Int), (j : Int), z)
theorem Grid.step {h : Int} {ns : List Str} {i j : Nat} {es : List Ent} (g : Grid h ns i j es) (nn : ns.Nodup) (hj : (j : Int) ≤ h) : Grid h ns i (j + 1) (es ++ cellsAt i j ns) := by
  refine ⟨?_, ?_, fun e he => ?_⟩
  · rw [List.nodup_append]
    refine ⟨g.nd, nodup_map (fun a b e => by simpa using e) nn, fun a ha b hb q => ?_⟩
    obtain ⟨z, _, rfl⟩ := List.mem_map.mp hb
    subst q
    have := (g.at_ _ ha).2.1
    simp at this
  · rw [List.length_append, g.len]
    unfold cellsAt
    rw [List.length_map, ← Nat.succ_mul]; rfl
  · rcases List.mem_append.mp he with he | he
    · have q := g.at_ e he
      exact ⟨q.1, by omega, q.2.2⟩
    · obtain ⟨z, hz, rfl⟩ := List.mem_map.mp he
      exact ⟨by show (0 : Int) ≤ (i : Int); omega, .inr ⟨rfl, by show (j : Int) < ((j + 1 : Nat) : Int); omega⟩, by show (0 : Int) ≤ (j : Int); omega, hj, hz⟩
theorem Grid.big {b h : Int} {ns : List Str} {es : List Ent} (g : Grid h ns (b + 1).toNat 0 es) (b0 : 0 ≤ b) (b3 : b ≤ 3) (h0 : 0 ≤ h) (h3 : h ≤ 3) (l0 : 1 ≤ ns.length) (l1 : ns.length ≤ 10) (n : ¬ (b = 0 ∧ h = 0 ∧ ns.length = 1)) : 2 ≤ es.length ∧ es.length ≤ 160 := by
  rw [g.len, Nat.add_zero]
  have e1 : (b + 1).toNat ≤ 4 := by omega
  have e2 : h.toNat + 1 ≤ 4 := by omega
  have e3 : 1 ≤ (b + 1).toNat := by omega
  have e4 : 1 ≤ h.toNat + 1 := by omega
  refine ⟨?_, Nat.le_trans (Nat.mul_le_mul (Nat.mul_le_mul e1 e2) l1) (by decide)⟩
  by_cases c1 : b = 0
  · by_cases c2 : h = 0
    · have q := Nat.mul_le_mul (Nat.mul_le_mul e3 e4) (show 2 ≤ ns.length by omega)
      exact q
    · have q := Nat.mul_le_mul (Nat.mul_le_mul e3 (show 2 ≤ h.toNat + 1 by omega)) l0
      exact q
  · have q := Nat.mul_le_mul (Nat.mul_le_mul (show 2 ≤ (b + 1).toNat by omega) e4) l0
    exact q
theorem Grid.small {h : Int} {ns : List Str} {i j : Nat} {es : List Ent} (g : Grid h ns i j es) (i4 : i ≤ 4) (j4 : j ≤ 4) (h3 : h ≤ 3) (l1 : ns.length ≤ 10) : es.length ≤ 200 := by
  rw [g.len]
  have q := Nat.mul_le_mul i4 (show h.toNat + 1 ≤ 4 by omega)
  exact Nat.le_trans (Nat.mul_le_mul (show i * (h.toNat + 1) + j ≤ 20 by omega) l1) (by decide)
/-- a step, and what stands behind it -/
theorem seq_cut {A R : TS} {D : Ends} {σ : L2.St} {H : Hp} (Pm : L2.St → Hp → Prop) (main : ∀ σ' H', Pm σ' H' → R D σ' H') (h : (∀ σ' H', Pm σ' H' → R D σ' H') → tSeq A R D σ H) : tSeq A R D σ H := h main
end K11

set_option Elab.async false
set_option linter.all false
set_option maxRecDepth 100000
set_option maxHeartbeats 4000000
namespace K11
open PySem L2 Lay Own SrtO
local macro_rules | `(tactic| walk_at "ne") => `(tactic| first | assumption | (apply Ne.symm; assumption) | exact ne_of_none (by walk_at "look") (by assumption) | exact (ne_of_none (by walk_at "look") (by assumption)).symm)
local macro_rules | `(tactic| walk_at "look") => `(tactic| first | assumption | exact upd_same | (refine Eq.trans (upd_ne ?_) ?_; walk_at "ne"; walk_at "look"))
local macro_rules | `(tactic| walk_at "rds") => `(tactic| first | rfl | assumption | walk_at "look" | exact SqL.of (by walk_at "look") | exact SqT.of (by walk_at "look") | exact Or.inl (SqL.of (by walk_at "look")) | exact Or.inl (by assumption) | decide | omega | exact Nat.le_of_ble_eq_true rfl | exact Or.inr ⟨by decide, by decide⟩ | exact Or.inl ⟨by omega, by omega⟩ | exact ⟨by decide, by decide⟩)
local macro_rules | `(tactic| walk_at "rd1") => `(tactic| first | (apply Exists.intro) | (refine And.intro ?_ ?_; walk_at "rds") | (refine Or.inl ?_; apply Exists.intro; refine And.intro ?_ ?_; rfl))
local macro_rules | `(tactic| walk_at "rd") => `(tactic| repeat walk_at "rd1")
section
variable {P : Program} {w : World} {K : PySem.W.Frag} {mg : Str → Option Value} {base : Heap}
/-! entries -/
def spLEn (K : PySem.W.Frag) : Sp := fun vs H Q _ => ∃ p a ns, vs = [.ref p, .ref a] ∧ H p = some (PotO p) ∧ H a = some (.lst (ns.map V.str)) ∧ NsOk ns ∧ 1 ≤ ns.length ∧ ns.length ≤ 10 ∧
  ∀ l zs es H', L2.Same H H' → H l = none → H' l = some (.lst zs) → EL H' zs es → Due es → Q (.ref l) H'
theorem d_lentries (T : Txt K mg) : Df P w K mg base 3 "_law_entries" ["_law_pot_here", "_law_tags"] (spLEn K) := by
  have D_l_draw := d_draw (P := P) (w := w) (base := base) T
  have D_l_among := d_among (P := P) (w := w) (base := base) T
  have D_l_normed := d_lnormed (P := P) (w := w) (base := base) T
  refine T.S_l_entries.by sc_l_entries (fun vs H Q E h => ?_) (fun f cdv A outer s H vs Q E hr hgd h => ?_)
  · obtain ⟨p, a, ns, rfl, _⟩ := h; rfl
  · obtain ⟨p, a, ns, rfl, hp, ha, ok, l0, l1, k⟩ := h
    refine ⟨_, (pss_cons (ps_par3 (i := 2) (j := 3) (l := 4) rfl sc_l_entries.nd rfl rfl rfl (by decide) (by decide) (by decide) rfl rfl rfl (pa_cons (pe_own D_l_draw (hr.mono (by first | decide | omega)) hgd (pa_cons (pv 0) (pa_cons pe_int pa_nil))) (pa_cons (pe_own D_l_draw (hr.mono (by first | decide | omega)) hgd (pa_cons (pv 0) (pa_cons pe_int pa_nil))) (pa_cons (pe_lst pa_nil) pa_nil))) (by first | rfl | with_unfolding_all rfl))
      (pss_cons (ps_if (PW.pt (pw_and (pt_cmpR op_eq (pv 2) pe_int (nomark _)) (pw_and (pt_cmpR op_eq (pv 3) pe_int (nomark _)) (pw_and1 (pt_cmpR op_eq (pe_callB call_len_seq (by rfl) T.n_len PySem.boot_len (pa_cons (pv 1) pa_nil)) pe_int (nomark _)))))) (pss_one (ps_set (i := 2) sc_l_entries.nd rfl (by first | exact Or.inl rfl | exact Or.inr rfl) pe_int)) pss_nil)
      (pss_cons (ps_for PassesOwn.never rfl (pi_range1 (by rfl) T.n_range (pa_cons (pe_op op_add (pv 2) pe_int) pa_nil)) (pg_name (i := 5) sc_l_entries.nd rfl (by first | exact Or.inl rfl | exact Or.inr rfl)) (pss_one (ps_for PassesOwn.never rfl (pi_range1 (by rfl) T.n_range (pa_cons (pe_op op_add (pv 3) pe_int) pa_nil)) (pg_name (i := 6) sc_l_entries.nd rfl (by first | exact Or.inl rfl | exact Or.inr rfl)) (pss_one (ps_expr (pe_bm PySem.F.plainAttrs_list PySem.F.slot_list_extend PySem.F.type_list_extend mt_extend (pv 4) (pa_cons (pe_lc (own := [("_law_tag", 9)]) rfl sc_l_entries.nd (pi_list (pv 1)) (blkOk_by (own := [("_law_tag", 9)]) (N := ["_law_pot_here", "_law_tags", "_law_broad", "_law_high", "_law_free", "_law_across", "_law_up", "_law_found", "_law_turn", "_law_tag"]) (sc := defScope s_l_entries) (by decide +kernel)) (fun _ _ _ _ _ => (pg_name (i := 9) sc_l_entries.nd rfl (by first | exact Or.inl rfl | exact Or.inr rfl))) (fun _ _ _ _ _ => pts_nil) (fun _ _ _ _ _ => (pe_tup (pa_cons (pv 5) (pa_cons (pv 6) (pa_cons (pv 9) pa_nil)))))) pa_nil)))))))
      (pss_cons (ps_set (i := 7) sc_l_entries.nd rfl (by first | exact Or.inl rfl | exact Or.inr rfl) (pe_lst pa_nil))
      (pss_cons (ps_for PassesOwn.never rfl (pi_range1 (by rfl) T.n_range (pa_cons (pe_callB (call_min2 rfl) (by rfl) T.n_min (by decide +kernel) (pa_cons (pe_callB call_len_seq (by rfl) T.n_len PySem.boot_len (pa_cons (pv 4) pa_nil)) (pa_cons (pe_own D_l_among (hr.mono (by first | decide | omega)) hgd (pa_cons (pv 0) (pa_cons (pe_lst (pa_cons pe_int (pa_cons pe_int (pa_cons pe_int (pa_cons pe_int (pa_cons pe_int (pa_cons pe_int (pa_cons pe_int pa_nil)))))))) pa_nil))) pa_nil))) pa_nil)) (pg_name (i := 8) sc_l_entries.nd rfl (by first | exact Or.inl rfl | exact Or.inr rfl)) (pss_one (ps_expr (pe_bm PySem.F.plainAttrs_list PySem.F.slot_list_append PySem.F.type_list_append mt_append (pv 7) (pa_cons (pe_bm PySem.F.plainAttrs_list PySem.F.slot_list_pop PySem.F.type_list_pop mt_popAt (pv 4) (pa_cons (pe_own D_l_draw (hr.mono (by first | decide | omega)) hgd (pa_cons (pv 0) (pa_cons (pe_callB call_len_seq (by rfl) T.n_len PySem.boot_len (pa_cons (pv 4) pa_nil)) pa_nil))) pa_nil)) pa_nil)))))
      (pss_one (ps_ret (pe_own D_l_normed (hr.mono (by first | decide | omega)) hgd (pa_cons (pv 7) pa_nil))))))))), ?_⟩
    refine ⟨_, rfl, p, 4, rfl, hp, by decide, by decide, fun d H1 d0 d1 s1 => ?_⟩
    refine ⟨_, rfl, p, 4, rfl, s1 _ _ hp, by decide, by decide, fun h H2 e0 e1 s2 => ?_⟩
    walk_at "rd"
    intro o no
    refine ⟨_, _, _, rfl, ?_⟩
    have s3 : L2.Same H (upd H2 o (.lst [])) := (s1.trans s2).trans (Same.new no)
    have ho3 : (upd H2 o (.lst [])) o = some (.lst []) := upd_same
    have no' : H o = none := (s1.trans s2).free no
    generalize upd H2 o (.lst []) = H3 at s3 ho3
    dsimp only
    refine seq_cut (fun σ' H' => ∃ b : Int, 0 ≤ b ∧ b ≤ 3 ∧ ¬ (b = 0 ∧ h = 0 ∧ ns.length = 1) ∧ σ' = [some (.ref p), some (.ref a), some (.int b), some (.int h), some (.ref o), none, none, none, none, none] ∧ H' = H3) (fun σ' H' q => ?_) (fun main => ?_)
    · obtain ⟨b, b0, b3, nb, rfl, rfl⟩ := q
      refine ⟨_, rfl, b, 1, rfl, rfl, b + 1, rfl, by omega, by omega, ?_⟩
      refine for_it walk_range (fun i σ H' => ∃ (s5 s6 s7 s8 s9 : Option V) (ls : List V) (es : List Ent), σ = [some (.ref p), some (.ref a), some (.int b), some (.int h), some (.ref o), s5, s6, s7, s8, s9] ∧ L2.Same H H' ∧ H' o = some (.lst ls) ∧ EL H' ls es ∧ Grid h ns i 0 es)
        ⟨_, _, _, _, _, [], [], rfl, s3, ho3, .nil, .start⟩ (fun _ _ _ _ _ => trivial) (fun i x σ H4 H5 hi hP y => ?_) (fun σ H4 hP => ?_)
      · obtain ⟨s5, s6, s7, s8, s9, ls, es, rfl, t1, ho, el, gr⟩ := hP
        obtain ⟨rfl, rfl⟩ := y
        refine ⟨_, rfl, h, 1, rfl, rfl, h + 1, rfl, by omega, by omega, ?_⟩
        refine for_it walk_range (fun j σ H' => ∃ (s6 s7 s8 s9 : Option V) (ls : List V) (es : List Ent), σ = [some (.ref p), some (.ref a), some (.int b), some (.int h), some (.ref o), some (.int (0 + (i : Int))), s6, s7, s8, s9] ∧ L2.Same H H' ∧ H' o = some (.lst ls) ∧ EL H' ls es ∧ Grid h ns i j es)
          ⟨_, _, _, _, ls, es, rfl, t1, ho, el, gr⟩ (fun _ _ _ _ _ => trivial) (fun j x σ H6 H7 hj hP y => ?_) (fun σ H6 hP => ?_)
        · obtain ⟨s6, s7, s8, s9, ls, es, rfl, t1, ho, el, gr⟩ := hP
          obtain ⟨rfl, rfl⟩ := y
          refine ⟨_, rfl, ty_lst ho, ?_⟩
          refine ⟨_, rfl, a, rfl, ⟨_, SqL.of (t1 _ _ ha)⟩, fun D nD => ?_⟩
          refine lc_depI (walk_list (xs := ns.map V.str)) nD (by rw [List.length_map]; omega) (fun _ sm => SqL.of (sm _ _ (t1 _ _ ha))) (fun n H v => ∃ z, ns[n]? = some z ∧ EntT H v ((i : Int), (j : Int), z)) (fun n H H' v s ⟨e, he, h⟩ => ⟨e, he, h.same s⟩) (fun n H xs ys v hD ⟨e, he, h⟩ => ⟨e, he, h.mut hD⟩) (fun n x H8 H9 Kn Z hn sm _ y q => ?_) (fun H8 ys sm hD hl hr => ?_)
          · obtain ⟨rfl, hx⟩ := y
            rw [List.getElem?_map] at hx
            obtain ⟨z, hz, rfl⟩ := Option.map_eq_some_iff.mp hx
            walk_at "rd"
            exact fun p np => q _ _ (Same.new np) ⟨z, hz, p, rfl, by rw [upd_same]; show some (HO.tup [V.int (0 + (i : Int)), V.int (0 + (j : Int)), V.str z]) = _; rw [Int.zero_add, Int.zero_add]⟩
          · have el2 : EL H8 ys (cellsAt i j ns) := by
              refine .of_at (by unfold cellsAt; rw [List.length_map, hl, List.length_map]) fun n x e hx he => ?_
              obtain ⟨z, hz, q⟩ := hr n x hx
              unfold cellsAt at he
              rw [List.getElem?_map, hz] at he
              cases he
              exact q
            have le1 := el.len
            have le2 := el2.len
            have sm1 := gr.small (by omega) (by omega) (by omega) l1
            refine ⟨o, D, ls, ys, rfl, rfl, sm _ _ ho, hD, Nat.le_trans (m := 210) (by rw [hl, List.length_map]; omega) (by decide), ?_⟩
            exact ⟨_, _, _, _, ls ++ ys, es ++ cellsAt i j ns, rfl, Same.mut (t1.trans sm) no', upd_same, ((el.same sm).app el2).mut (sm _ _ ho), gr.step ok.nd (by omega)⟩
        · obtain ⟨s6, s7, s8, s9, ls, es, rfl, t1, ho, el, gr⟩ := hP
          exact ⟨_, _, _, _, _, ls, es, rfl, t1, ho, el, gr.row e0⟩
      · obtain ⟨s5, s6, s7, s8, s9, ls, es, rfl, t1, ho, el, gr⟩ := hP
        obtain ⟨big0, big1⟩ := gr.big b0 b3 e0 (by omega) l0 l1 nb
        walk_at "rd"
        intro q0 nq
        have oq : o ≠ q0 := fun z => by rw [← z, ho] at nq; cases nq
        have nq' : H q0 = none := t1.free nq
        have t2 := t1.trans (Same.new (o := .lst []) nq)
        refine ⟨_, rfl, o, ls, rfl, .inl (SqL.of (by rw [upd_ne oq]; exact ho)), ?_⟩
        walk_at "rd"
        intro l nl
        have t3 := t2.trans (Same.new (o := .lst [V.int 2, V.int 2, V.int 3, V.int 3, V.int 4, V.int 5, V.int 6]) nl)
        have u2 : L2.Same H4 (upd (upd H4 q0 (.lst [])) l (.lst [V.int 2, V.int 2, V.int 3, V.int 3, V.int 4, V.int 5, V.int 6])) := (Same.new nq).trans (Same.new nl)
        have q2 : (upd (upd H4 q0 (.lst [])) l (.lst [V.int 2, V.int 2, V.int 3, V.int 3, V.int 4, V.int 5, V.int 6])) q0 = some (.lst []) := Same.new nl _ _ upd_same
        refine ⟨p, l, _, rfl, t3 _ _ hp, SqL.of upd_same, by decide, by decide, fun y H5 hy t5 => ?_⟩
        have hj : ∃ j : Int, y = .int j ∧ 2 ≤ j ∧ j ≤ 6 := by
          simp only [List.mem_cons, List.not_mem_nil, or_false] at hy
          rcases hy with rfl | rfl | rfl | rfl | rfl | rfl | rfl <;> exact ⟨_, rfl, by decide, by decide⟩
        obtain ⟨j, rfl, j2, j6⟩ := hj
        refine ⟨ls.length, j, rfl, ?_⟩
        obtain ⟨m, hm⟩ : ∃ m, (if j < (ls.length : Int) then j else (ls.length : Int)) = m := ⟨_, rfl⟩
        have lle := el.len
        have mb : 2 ≤ m ∧ m ≤ 6 ∧ m ≤ ls.length := by
          by_cases c : j < (ls.length : Int)
          · rw [if_pos c] at hm; omega
          · rw [if_neg c] at hm; omega
        obtain ⟨m2, m6, ml⟩ := mb
        refine ⟨m, by rw [hm], by omega, by omega, ?_⟩
        refine for_it walk_range (fun i σ H' => ∃ (s8 s9 : Option V) (lx fx : List V), σ = [some (.ref p), some (.ref a), some (.int b), some (.int h), some (.ref o), s5, s6, some (.ref q0), s8, s9] ∧ L2.Same H H' ∧ H' o = some (.lst lx) ∧ H' q0 = some (.lst fx) ∧ EL H' ls es ∧ (lx ++ fx).Perm ls ∧ fx.length = i)
          ⟨_, _, ls, [], rfl, t3.trans t5, t5 _ _ (u2 _ _ ho), t5 _ _ q2, (el.same u2).same t5, by rw [List.append_nil], rfl⟩ (fun _ _ _ _ _ => trivial) (fun i x σ H6 H7 hi hP y => ?_) (fun σ H6 hP => ?_)
        · obtain ⟨s8, s9, lx, fx, rfl, t4, ho4, hq4, el4, pm, lf⟩ := hP
          obtain ⟨rfl, rfl⟩ := y
          have l := pm.length_eq
          rw [List.length_append] at l
          refine ⟨_, rfl, ty_lst hq4, _, rfl, ty_lst ho4, _, rfl, _, rfl, o, lx, rfl, .inl (SqL.of ho4), p, lx.length, rfl, t4 _ _ hp, by omega, Int.lt_of_le_of_lt (b := 200) (by omega) (by decide), fun d' H8 d0 d1 s7 => ?_⟩
          have hk : d'.toNat < lx.length := by omega
          refine ⟨o, lx, d', d'.toNat, lx[d'.toNat], rfl, rfl, s7 _ _ ho4, by omega, by omega, sIx_of d0 d1, List.getElem?_eq_getElem hk, ?_⟩
          have hq8 : upd H8 o (.lst (lx.eraseIdx d'.toNat)) q0 = some (.lst fx) := by rw [upd_ne (Ne.symm oq)]; exact s7 _ _ hq4
          refine ⟨q0, fx, _, rfl, rfl, hq8, Nat.lt_of_le_of_lt (m := 200) (by omega) (by decide), ?_⟩
          refine ⟨_, _, lx.eraseIdx d'.toNat, fx ++ [lx[d'.toNat]], rfl, Same.mut (Same.mut (t4.trans s7) no') nq', by rw [upd_ne oq]; exact upd_same, upd_same, ((el4.same s7).mut (s7 _ _ ho4)).mut hq8, ?_, by rw [List.length_append, lf]; rfl⟩
          have e1 := erase_perm hk
          have e2 : (lx.eraseIdx d'.toNat ++ (fx ++ [lx[d'.toNat]])).Perm ((lx[d'.toNat] :: lx.eraseIdx d'.toNat) ++ fx) := by
            rw [← List.append_assoc]
            exact List.perm_append_comm
          exact e2.trans ((e1.append (List.Perm.refl fx)).trans pm)
        · obtain ⟨s8, s9, lx, fx, rfl, t4, ho4, hq4, el4, pm, lf⟩ := hP
          obtain ⟨el5, pm5⟩ := el4.perm pm
          have elf : EL H6 fx (fx.map (entOf H6)) := .of_map fun x hx => el4.ents x (pm.mem_iff.mp (List.mem_append_right _ hx))
          rw [List.map_append] at pm5
          have nd := (List.nodup_append.mp (pm5.nodup_iff.mpr gr.nd)).2.1
          have lm : (fx.map (entOf H6)).length = m.toNat := by rw [List.length_map, lf]
          refine ⟨_, rfl, q0, fx, _, rfl, hq4, elf, by omega, by omega, fun r zs gs H8 s8 nr hr elg nrm => ?_⟩
          refine k r zs gs H8 (t4.trans s8) (t4.free nr) hr elg (due_of nrm nd (by omega) (by omega) fun e he => ?_)
          have q := gr.at_ e (pm5.mem_iff.mp (List.mem_append_right _ he))
          exact ⟨q.1, by omega, q.2.2.1, by omega, ok.ok _ q.2.2.2.2⟩
    · by_cases c1 : d = 0
      · subst c1
        refine ⟨_, rfl, rfl, _, rfl, ?_⟩
        rw [decV, decide_eq_true rfl]
        refine iteT ?_
        by_cases c2 : h = 0
        · subst c2
          refine ⟨_, rfl, rfl, _, rfl, ?_⟩
          rw [decV, decide_eq_true rfl]
          refine iteT ?_
          refine ⟨_, rfl, a, _, rfl, .inl (SqL.of (s3 _ _ ha)), rfl, _, rfl, ?_⟩
          rw [decV]
          by_cases c3 : ((ns.map V.str).length : Int) = 1
          · rw [decide_eq_true c3]
            refine iteT ?_
            exact main _ _ ⟨1, by decide, by decide, fun z => absurd z.1 (by decide), rfl, rfl⟩
          · rw [decide_eq_false c3]
            refine iteF ?_
            rw [List.length_map] at c3
            exact main _ _ ⟨0, by decide, by decide, fun z => c3 (by omega), rfl, rfl⟩
        · refine ⟨_, rfl, rfl, _, rfl, ?_⟩
          rw [decV, decide_eq_false c2]
          refine iteF (iteF ?_)
          exact main _ _ ⟨0, by decide, by decide, fun z => c2 z.2.1, rfl, rfl⟩
      · refine ⟨_, rfl, rfl, _, rfl, ?_⟩
        rw [decV, decide_eq_false c1]
        refine iteF (iteF ?_)
        exact main _ _ ⟨d, d0, by omega, fun z => c1 z.1, rfl, rfl⟩
end
end K11

set_option Elab.async false
set_option linter.all false
set_option maxRecDepth 100000
set_option maxHeartbeats 4000000
namespace K11
open PySem L2 Lay Own SrtO TL PySem.Builtin.Str
/-- code points of eight hex figures at most -/
def Sm (z : Str) : Prop := ∀ c ∈ tl z, c < 16 ^ 8
theorem Sm.app {a b : Str} (ha : Sm a) (hb : Sm b) : Sm (a ++ b) := fun c hc => by
  rw [tl_append] at hc
  rcases List.mem_append.mp hc with h | h
  · exact ha c h
  · exact hb c h
theorem Sm.of (s : String) : Sm (Str.ofString s) := fun c hc => by
  rw [tl_ofString] at hc
  obtain ⟨x, _, rfl⟩ := List.mem_map.mp hc
  exact x.val.toNat_lt
theorem joinL_mem {S : List Nat} : ∀ {l : List (List Nat)} {c : Nat}, c ∈ joinL S l → c ∈ S ∨ ∃ p ∈ l, c ∈ p
  | [], c, h => by cases h
  | [p], c, h => .inr ⟨p, List.mem_singleton.mpr rfl, h⟩
  | p :: q :: r, c, h => by
    have h : c ∈ p ++ (S ++ joinL S (q :: r)) := h
    rcases List.mem_append.mp h with h | h
    · exact .inr ⟨p, List.mem_cons_self .., h⟩
    · rcases List.mem_append.mp h with h | h
      · exact .inl h
      · rcases joinL_mem h with h | ⟨x, hx, h⟩
        · exact .inl h
        · exact .inr ⟨x, List.mem_cons_of_mem _ hx, h⟩
theorem Sm.join {s : Str} {ts : List Str} (hs : Sm s) (h : ∀ t ∈ ts, Sm t) : Sm (Str.join s ts) := fun c hc => by
  rw [tl_join] at hc
  rcases joinL_mem hc with z | ⟨p, hp, z⟩
  · exact hs c z
  · obtain ⟨t, ht, rfl⟩ := List.mem_map.mp hp
    exact h t ht c z
theorem Sm.tup {ts : List Str} (h : ∀ t ∈ ts, Sm t) : Sm (tupleText ts) := by
  unfold tupleText
  refine Sm.app (Sm.app (Sm.of _) (Sm.join (Sm.of _) h)) ?_
  split <;> exact Sm.of _
theorem name_let {z : Str} (h : nameB z = true) : ∀ c ∈ z.cps.toList, c ∈ letters.cps.toList := by
  intro c hc
  obtain ⟨i, hi⟩ := List.mem_iff_getElem?.mp hc
  have h2 : (lets z).all id = true := (Bool.and_eq_true_iff.mp h).2
  have hl : i < z.cps.size := by
    have := (List.getElem?_eq_some_iff.mp hi).1
    simpa using this
  have m : decide (z.cps.getD i 0 ∈ letters.cps.toList) ∈ lets z := List.mem_map.mpr ⟨i, List.mem_range.mpr hl, rfl⟩
  have d := of_decide_eq_true (show decide (z.cps.getD i 0 ∈ letters.cps.toList) = true from List.all_eq_true.mp h2 _ m)
  have e : z.cps.getD i 0 = c := by
    rw [Array.getElem?_toList] at hi
    simp [Array.getD, hl] at *
    exact hi
  rw [e] at d
  exact d
theorem fold_small {q : Nat} : ∀ (l : List Nat) (acc : Array Nat), (∀ d ∈ acc.toList, d < 16 ^ 8) → (∀ c ∈ l, ∀ d ∈ reprChar q c, d < 16 ^ 8) → ∀ d ∈ (l.foldl (fun out c => out ++ (reprChar q c).toArray) acc).toList, d < 16 ^ 8
  | [], acc, ha, _, d, hd => ha d hd
  | c :: l, acc, ha, hl, d, hd => by
    refine fold_small l (acc ++ (reprChar q c).toArray) (fun e he => ?_) (fun x hx => hl x (List.mem_cons_of_mem _ hx)) d hd
    rw [Array.toList_append] at he
    rcases List.mem_append.mp he with he | he
    · exact ha e he
    · exact hl c (List.mem_cons_self ..) e he
theorem Sm.repr {z : Str} (h : nameB z = true) : Sm (reprText z) := by
  have hq : reprQuote z = 39 ∨ reprQuote z = 34 := by
    unfold reprQuote
    split <;> simp
  have hq8 : reprQuote z < 16 ^ 8 := by rcases hq with e | e <;> rw [e] <;> decide
  have al : ∀ c ∈ letters.cps.toList, (∀ d ∈ reprChar 39 c, d < 16 ^ 8) ∧ (∀ d ∈ reprChar 34 c, d < 16 ^ 8) := by decide +kernel
  intro d hd
  unfold reprText at hd
  rw [← Array.foldl_toList] at hd
  have hd : d ∈ ((z.cps.toList.foldl (fun out c => out ++ (reprChar (reprQuote z) c).toArray) #[reprQuote z]).push (reprQuote z)).toList := hd
  rw [Array.toList_push] at hd
  rcases List.mem_append.mp hd with hd | hd
  · refine fold_small _ _ (fun e he => ?_) (fun c hc => ?_) d hd
    · have he : e ∈ [reprQuote z] := he
      rw [List.mem_singleton.mp he]; exact hq8
    · have w := al c (name_let h c hc)
      rcases hq with e | e <;> rw [e]
      · exact w.1
      · exact w.2
  · rw [List.mem_singleton.mp hd]; exact hq8
theorem Sm.ent {e : Ent} (ok : EOk e) : Sm (entTxt e) := by
  unfold entTxt
  refine Sm.tup fun t ht => ?_
  simp only [List.mem_cons, List.not_mem_nil, or_false] at ht
  rcases ht with rfl | rfl | rfl
  · exact Sm.of _
  · exact Sm.of _
  · exact Sm.repr ok.2.2.1
/-- the text of a kind -/
def kTxt (es : List Ent) : Str := "Kind" ++ tupleText (es.map entTxt)
theorem kTxt_sm {es : List Ent} (ok : ∀ e ∈ es, EOk e) : Sm (kTxt es) := Sm.app (Sm.of _) (Sm.tup fun t ht => by
  obtain ⟨e, he, rfl⟩ := List.mem_map.mp ht
  exact Sm.ent (ok e he))
theorem kTxt_len {es : List Ent} (ok : ∀ e ∈ es, EOk e) (l : es.length ≤ 100) : (kTxt es).length ≤ 1100004 := by
  have z := entsTxt_len ok l
  unfold kTxt
  rw [strLen_append]
  have e : (Str.ofString "Kind").length = 4 := by decide +kernel
  omega
/-- the same, put together by hand -/
theorem kTxt_eq {es : List Ent} (l : 2 ≤ es.length) : (("Kind(" : Str) ++ Txt.join ", " (es.map entTxt)) ++ ")" = kTxt es := by
  rw [join_eq]
  unfold kTxt tupleText
  have ne : ((es.map entTxt).length == 1) = false := by rw [List.length_map]; exact beq_eq_false_iff_ne.mpr (by omega)
  rw [ne]
  apply ext_tl
  simp only [tl_append]
  have e : tl (Str.ofString "Kind(") = tl (Str.ofString "Kind") ++ tl (Str.ofString "(") := by decide +kernel
  rw [e]
  simp only [List.append_assoc]
  rfl
end K11

set_option Elab.async false
set_option linter.all false
set_option maxRecDepth 100000
set_option maxHeartbeats 4000000
namespace K11
open PySem L2 Lay Own SrtO TL PyProof.Rows
theorem KindAt.same {K : PySem.W.Frag} {H H' : Hp} {a : Addr} {fs : List Ent} {m1 m2 : Int} (h : KindAt K H a fs m1 m2) (s : L2.Same H H') : KindAt K H' a fs m1 m2 := by
  obtain ⟨dx, t, r, zs, h1, h2, h3, h4, h5⟩ := h
  exact ⟨dx, t, r, zs, s _ _ h1, s _ _ h2, s _ _ h3, h4.same s, s _ _ h5⟩
theorem isMax_eq {a b : Int} {ns : List Int} (h : IsMax a ns) (g : IsMax b ns) : a = b := by
  have := g.2 a h.1
  have := h.2 b g.1
  omega
theorem sd_sorted : ∀ {l : List Str}, PyProof.Rows.sortedS l = true → Sd strLt l
  | [], _ => List.Pairwise.nil
  | [x], _ => List.pairwise_singleton _ _
  | x :: y :: r, h => by
    have h : (!PySem.Spec.ltCps y.cps.toList x.cps.toList && PyProof.Rows.risingS y r) = true := h
    obtain ⟨h1, h2⟩ := Bool.and_eq_true_iff.mp h
    have ih : Sd strLt (y :: r) := sd_sorted (l := y :: r) h2
    have e : strLt y x = false := by
      rw [ltCps_eq] at h1
      show decide (y.cps.toList < x.cps.toList) = false
      cases hd : decide (y.cps.toList < x.cps.toList) with
      | false => rfl
      | true => rw [hd] at h1; cases h1
    refine List.pairwise_cons.mpr ⟨fun z hz => ?_, ih⟩
    rcases List.mem_cons.mp hz with rfl | hz
    · exact e
    · have q := (List.pairwise_cons.mp ih).1 z hz
      exact tot_str.swo.tr _ _ _ e q
theorem names_eq {es : List Ent} {ns ss : List Str} (h : NamesOf es ns) (s : PyProof.Rows.sortedS ss = true) (nd : ss.Nodup) (m : ∀ x, x ∈ ss ↔ x ∈ es.map (·.2.2)) : ss = ns := by
  refine sd_uniq tot_str ((List.perm_ext_iff_of_nodup nd h.2.1).mpr fun z => ?_) (sd_sorted s) h.1
  rw [m, h.2.2, List.mem_map]
def bTxt (b : Bool) : Str := if b then "True" else "False"
theorem kTxt_join {es : List Ent} (ok : ∀ e ∈ es, EOk e) (l0 : 2 ≤ es.length) (l : es.length ≤ 100) : (("Kind(" : Str) ++ Txt.join ", " (es.map entTxt)).length ≤ 1100004 := by
  have e := kTxt_eq l0
  have z := kTxt_len ok l
  rw [← e, strLen_append] at z
  omega
/-- the six things that are told of a kind -/
def told6 (es : List Ent) (ns : List Str) (m1 m2 : Int) : List Str := [listText (es.map entTxt), listText (ns.map reprText), tupleText [toString m1, toString m2], bTxt (decide (m2 = 0)), toString ((es.length : Nat) : Int), reprText (kTxt es)]
theorem EntT.swl3 {K : PySem.W.Frag} {H : Hp} {e : Ent} (ok : EOk e) : Rp.SwL K H [] [.int e.1, .int e.2.1, .str e.2.2] [toString e.1, toString e.2.1, reprText e.2.2] := by
  obtain ⟨⟨b1, b2⟩, ⟨b3, b4⟩, _⟩ := ok
  have lg : ∀ i : Int, -20 ≤ i → i ≤ 20 → i.natAbs.log2 < 1920 := fun i h1 h2 => by
    have h : i.natAbs < 2 ^ 10 := by show i.natAbs < 1024; omega
    rcases Nat.eq_zero_or_pos i.natAbs with z | z
    · rw [z]; decide
    · exact Nat.lt_trans ((Nat.log2_lt (by omega)).mpr h) (by decide)
  exact .cons (.int _ (lg _ b1 b2)) (.cons (.int _ (lg _ b3 b4)) (.cons (.str _) .nil))
theorem names_swl {K : PySem.W.Frag} {H : Hp} : ∀ ns : List Str, Rp.SwL K H [] (ns.map V.str) (ns.map reprText)
  | [] => .nil
  | z :: ns => .cons (.str z) (names_swl ns)
theorem names_len {es : List Ent} {ns : List Str} (h : NamesOf es ns) : ns.length ≤ es.length := by
  by_cases c : (es.map (·.2.2)).length < ns.length
  · obtain ⟨x, hx, hm⟩ := pigeon h.2.1 c
    exact (hm (List.mem_map.mpr ((h.2.2 x).mp hx))).elim
  · rw [List.length_map] at c; omega
theorem log_small {i : Int} (h0 : -1000 ≤ i) (h1 : i ≤ 1000) : i.natAbs.log2 < 1920 := by
  have h : i.natAbs < 2 ^ 10 := by show i.natAbs < 1024; omega
  rcases Nat.eq_zero_or_pos i.natAbs with z | z
  · rw [z]; decide
  · exact Nat.lt_trans ((Nat.log2_lt (by omega)).mpr h) (by decide)
theorem six {K : PySem.W.Frag} {H : Hp} {E N R : Addr} {zs : List V} {es : List Ent} {ns : List Str} {m1 m2 : Int} (hE : H E = some (.lst zs)) (el : EL H zs es) (ok : ∀ e ∈ es, EOk e) (l0 : 0 < es.length) (l1 : es.length ≤ 100) (hN : H N = some (.lst (ns.map V.str))) (nn : ns ≠ [])
    (hR : H R = some (.tup [.int m1, .int m2])) (a1 : -20 ≤ m1) (a2 : m1 ≤ 20) (b1 : -20 ≤ m2) (b2 : m2 ≤ 20) :
    ∃ as, Rp.SwL K H as [.ref E, .ref N, .ref R, .bl (decide (m2 = 0)), .int ((es.length : Nat) : Int), .str (kTxt es)] (told6 es ns m1 m2) ∧ as.length ≤ es.length + 3 ∧ ∀ b ∈ as, b = E ∨ b = N ∨ b = R ∨ ∃ e : Ent, H b = some (.tup [.int e.1, .int e.2.1, .str e.2.2]) := by
  obtain ⟨as, sw, la, ho⟩ := EL.swl (K := K) el ok
  have offE := EL.off (.inr hE) el ho
  have s1 : Rp.Sw K H (E :: as) (.ref E) (listText (es.map entTxt)) := by
    cases zs with
    | nil => cases el; simp at l0
    | cons x xs => exact .lst hE sw offE
  have s2 : Rp.Sw K H [N] (.ref N) (listText (ns.map reprText)) := by
    have q := names_swl (K := K) (H := H) ns
    cases ns with
    | nil => exact (nn rfl).elim
    | cons z r => exact .lst hN q (by simp)
  have s3 : Rp.Sw K H [R] (.ref R) (tupleText [toString m1, toString m2]) := .tup hR (.cons (.int _ (log_small (by omega) (by omega))) (.cons (.int _ (log_small (by omega) (by omega))) .nil)) (by simp)
  refine ⟨_, .cons s1 (.cons s2 (.cons s3 (.cons (.bl _) (.cons (.int _ (log_small (by omega) (by omega))) (.cons (.str _) .nil))))), ?_, fun b hb => ?_⟩
  · simp only [List.length_append, List.length_cons, List.length_nil]; omega
  · simp only [List.mem_append, List.mem_cons, List.not_mem_nil, or_false] at hb
    rcases hb with (rfl | hb) | rfl | rfl
    · exact .inl rfl
    · exact .inr (.inr (.inr (ho b hb)))
    · exact .inr (.inl rfl)
    · exact .inr (.inr (.inl rfl))
theorem sum_le {B : Nat} : ∀ {l : List Str}, (∀ t ∈ l, t.length ≤ B) → (l.map (·.length)).sum ≤ B * l.length
  | [], _ => by simp
  | a :: l, h => by
    have h1 := h a (List.mem_cons_self ..)
    have h2 := sum_le (l := l) fun t ht => h t (List.mem_cons_of_mem _ ht)
    simp only [List.map_cons, List.sum_cons, List.length_cons, Nat.mul_succ]
    omega
theorem told6_len {es : List Ent} {ns : List Str} {m1 m2 : Int} (ok : ∀ e ∈ es, EOk e) (l1 : es.length ≤ 100) (n : NamesOf es ns) (a1 : -20 ≤ m1) (a2 : m1 ≤ 20) (b1 : -20 ≤ m2) (b2 : m2 ≤ 20) : (listText (told6 es ns m1 m2)).length ≤ sizeLine := by
  have e1 : (listText (es.map entTxt)).length ≤ 1020000 := by
    have h := PySem.listText_len_le (es.map entTxt)
    have q := sum_le (B := 10100) (l := es.map entTxt) fun t ht => by
      obtain ⟨e, he, rfl⟩ := List.mem_map.mp ht
      exact entTxt_len (ok e he)
    rw [List.length_map] at h q
    omega
  have e2 : (listText (ns.map reprText)).length ≤ 1020000 := by
    have h := PySem.listText_len_le (ns.map reprText)
    have q := sum_le (B := 10002) (l := ns.map reprText) fun t ht => by
      obtain ⟨z, hz, rfl⟩ := List.mem_map.mp ht
      obtain ⟨e, he, rfl⟩ := (n.2.2 z).mp hz
      have r := PySem.StrLaws.reprText_len e.2.2 (name_small (ok e he).2.2.1)
      have := (ok e he).2.2.2.1
      omega
    have := names_len n
    rw [List.length_map] at h q
    omega
  have e3 : (tupleText [((toString m1 : String) : Str), ((toString m2 : String) : Str)]).length ≤ 100 := by
    have h := PySem.tupleText_len_le [((toString m1 : String) : Str), ((toString m2 : String) : Str)]
    have i1 := int_len (i := m1) (by omega) (by omega)
    have i2 := int_len (i := m2) (by omega) (by omega)
    simp only [List.map_cons, List.map_nil, List.sum_cons, List.sum_nil, List.length_cons, List.length_nil] at h
    omega
  have e4 : (bTxt (decide (m2 = 0))).length ≤ 5 := by
    cases decide (m2 = 0) <;> decide +kernel
  have e5 : (((toString ((es.length : Nat) : Int)) : String) : Str).length ≤ 4 := int_len (by omega) (by omega)
  have e6 : (reprText (kTxt es)).length ≤ 11000042 := by
    have r := PySem.StrLaws.reprText_len (kTxt es) (kTxt_sm ok)
    have := kTxt_len ok l1
    omega
  have h := PySem.listText_len_le (told6 es ns m1 m2)
  simp only [told6, List.map_cons, List.map_nil, List.sum_cons, List.sum_nil, List.length_cons, List.length_nil] at h
  generalize (listText (es.map entTxt)).length = n1 at *
  generalize (listText (ns.map reprText)).length = n2 at *
  generalize (bTxt (decide (m2 = 0))).length = n4 at *
  generalize (reprText (kTxt es)).length = n6 at *
  exact Nat.le_trans (m := 13100000) (by unfold told6; omega) (by decide)
end K11

set_option Elab.async false
set_option linter.all false
set_option maxRecDepth 100000
set_option maxHeartbeats 4000000
namespace K11
open PySem L2 Lay Own SrtO
local macro_rules | `(tactic| walk_at "ne") => `(tactic| first | assumption | (apply Ne.symm; assumption) | exact ne_of_none (by walk_at "look") (by assumption) | exact (ne_of_none (by walk_at "look") (by assumption)).symm)
local macro_rules | `(tactic| walk_at "look") => `(tactic| first | assumption | exact upd_same | (refine Eq.trans (upd_ne ?_) ?_; walk_at "ne"; walk_at "look"))
local macro_rules | `(tactic| walk_at "rds") => `(tactic| first | rfl | assumption | walk_at "look" | exact SqL.of (by walk_at "look") | exact SqT.of (by walk_at "look") | exact Or.inl (SqL.of (by walk_at "look")) | exact Or.inl (by assumption) | decide | omega | exact Nat.le_of_ble_eq_true rfl | exact Or.inr ⟨by decide, by decide⟩ | exact Or.inl ⟨by omega, by omega⟩ | exact ⟨by decide, by decide⟩)
local macro_rules | `(tactic| walk_at "rd1") => `(tactic| first | (apply Exists.intro) | (refine And.intro ?_ ?_; walk_at "rds") | (refine Or.inl ?_; apply Exists.intro; refine And.intro ?_ ?_; rfl))
local macro_rules | `(tactic| walk_at "rd") => `(tactic| repeat walk_at "rd1")
section
variable {P : Program} {w : World} {K : PySem.W.Frag} {mg : Str → Option Value} {base : Heap}
/-! told right -/
theorem call_reprTK {cx : Cx} {C : PySem.W.Frag} (h : cx.K = C) (hg : cx.A.guards = some []) (hu : cx.A.units + 200 < cLine) : CallR cx (.builtin "repr") (rReprT C) := h ▸ call_reprT hg hu
def spTold (K : PySem.W.Frag) : Sp := fun vs H Q _ => ∃ a d m1 m2 es xs, vs = [.ref a, .ref d] ∧ KindAt K H a es m1 m2 ∧ IsMax m1 (es.map (·.1)) ∧ IsMax m2 (es.map (·.2.1)) ∧ H d = some (.lst xs) ∧ EL H xs es ∧ EsOk es ∧ ∀ H', L2.Same H H' → Q (.bl true) H'
theorem d_told_right (T : Txt K mg) : Df P w K mg base 7 "_law_told_right" ["_law_made", "_law_due"] (spTold K) := by
  have D_l_far := d_far (P := P) (w := w) (base := base) T
  obtain ⟨pr, hpr⟩ := T.p_reach
  obtain ⟨pf, hpf⟩ := T.p_is_flat
  refine T.S_l_told_right.by sc_l_told_right (fun vs H Q E h => ?_) (fun f cdv A outer s H vs Q E hr hgd h => ?_)
  · obtain ⟨a, d, m1, m2, es, xs, rfl, _⟩ := h; rfl
  · obtain ⟨a, d, m1, m2, es, xs, rfl, kd, mx, my, hd, el, ok, k⟩ := h
    refine ⟨_, (pss_cons (ps_set (i := 2) sc_l_told_right.nd rfl (by first | exact Or.inl rfl | exact Or.inr rfl) (pe_own D_l_far (hr.mono (by first | decide | omega)) hgd (pa_cons (pv 1) pa_nil)))
      (pss_cons (ps_set (i := 3) sc_l_told_right.nd rfl (by first | exact Or.inl rfl | exact Or.inr rfl) (pe_lst (pa_cons (pe_methP0 (pv 0) T.cls T.m_entries (d_entries T).fp (hr.mono (by first | decide | omega)) hgd) (pa_cons (pe_methP0 (pv 0) T.cls T.m_names (d_names T).fp (hr.mono (by first | decide | omega)) hgd) (pa_cons (pe_propP (pv 0) T.cls hpr (d_reach T).fp (hr.mono (by decide)) hgd) (pa_cons (pe_propP (pv 0) T.cls hpf (d_is_flat T).fp (hr.mono (by decide)) hgd) (pa_cons (pe_callB  (call_lenP T.f___len__ T.i___len__ (d_len T).fp (hr.mono (by decide)) hgd) (by rfl) T.n_len PySem.boot_len (pa_cons (pv 0) pa_nil)) (pa_cons (pe_callB  (call_reprP T.f___repr__ T.i___repr__ (d_repr T).fp (hr.mono (by decide)) hgd) (by rfl) T.n_repr (by decide +kernel) (pa_cons (pv 0) pa_nil)) pa_nil))))))))
      (pss_cons (ps_set (i := 4) sc_l_told_right.nd rfl (by first | exact Or.inl rfl | exact Or.inr rfl) (pe_op op_add_str (pe_op op_add_str pe_str (pe_join pe_str (pe_lc (own := [("_law_part", 5)]) rfl sc_l_told_right.nd (pi_list (pv 1)) (blkOk_by (own := [("_law_part", 5)]) (N := ["_law_made", "_law_due", "_law_far_here", "_law_told", "_law_shown", "_law_part"]) (sc := defScope s_l_told_right) (by decide +kernel)) (fun _ _ _ _ _ => (pg_name (i := 5) sc_l_told_right.nd rfl (by first | exact Or.inl rfl | exact Or.inr rfl))) (fun _ _ _ _ _ => pts_nil) (fun _ _ _ _ _ => (pe_callB  (call_reprTK (C := K) rfl hgd (un200 hr)) (by rfl) T.n_repr (by decide +kernel) (pa_cons (pv 5) pa_nil)))))) pe_str))
      (pss_one (ps_ret (pe_cmpR op_eq (pe_callB (Rp.call_repr hgd (un200 hr)) (by rfl) T.n_repr (by decide +kernel) (pa_cons (pv 3) pa_nil)) (pe_callB (Rp.call_repr hgd (un200 hr)) (by rfl) T.n_repr (by decide +kernel) (pa_cons (pe_lst (pa_cons (pv 1) (pa_cons (pe_callB  (Gs.cr_sortS rfl) (by rfl) T.n_sorted (by decide +kernel) (pa_cons (pe_callTy (Gs.cr_setS rfl) (by rfl) T.n_set (by decide +kernel) (pa_cons (pe_lc (own := [("_law_part", 5)]) rfl sc_l_told_right.nd (pi_list (pv 1)) (blkOk_by (own := [("_law_part", 5)]) (N := ["_law_made", "_law_due", "_law_far_here", "_law_told", "_law_shown", "_law_part"]) (sc := defScope s_l_told_right) (by decide +kernel)) (fun _ _ _ _ _ => (pg_name (i := 5) sc_l_told_right.nd rfl (by first | exact Or.inl rfl | exact Or.inr rfl))) (fun _ _ _ _ _ => pts_nil) (fun _ _ _ _ _ => (pe_ix  (ix_tupK (C := K) rfl) (pv 5) pe_int (fun _ _ => rfl)))) pa_nil)) pa_nil)) (pa_cons (pv 2) (pa_cons (pe_cmpR op_eq (pe_ix ix_tup (pv 2) pe_int (fun _ _ => rfl)) pe_int (nomark _)) (pa_cons (pe_callB call_len_seq (by rfl) T.n_len PySem.boot_len (pa_cons (pv 1) pa_nil)) (pa_cons (pv 4) pa_nil))))))) pa_nil)) (nomark _))))))), ?_⟩
    have ln := el.len
    have l0 := ok.l0
    have l1 := ok.l1
    refine ⟨_, rfl, d, xs, es, rfl, hd, el, by omega, by omega, fun far n1 n2 H1 s1 nf hf hx hy => ?_⟩
    obtain rfl := isMax_eq mx hx
    obtain rfl := isMax_eq my hy
    have bnd : ∀ y ∈ es.map (·.1), -20 ≤ y ∧ y ≤ 20 := fun y hy => by
      obtain ⟨e, he, rfl⟩ := List.mem_map.mp hy
      exact (ok.ok e he).1
    have bnd2 : ∀ y ∈ es.map (·.2.1), -20 ≤ y ∧ y ≤ 20 := fun y hy => by
      obtain ⟨e, he, rfl⟩ := List.mem_map.mp hy
      exact (ok.ok e he).2.1
    have kd1 := kd.same s1
    obtain ⟨dx, t0, r0, zs0, ka, _⟩ := id kd1
    refine ⟨_, rfl, a, dx, _, rfl, ka, rfl, a, es, m1, m2, rfl, kd1, fun E zsE H2 s2 nE hE elE => ?_⟩
    have kd2 := kd1.same s2
    refine ⟨_, rfl, a, dx, _, rfl, s2 _ _ ka, rfl, a, es, m1, m2, rfl, kd2, by omega, fun N ns H3 s3 nN hN nof => ?_⟩
    have kd3 := kd2.same s3
    have ka3 := s3 _ _ (s2 _ _ ka)
    refine ⟨_, rfl, a, dx, _, rfl, ka3, a, es, m1, m2, rfl, kd3, fun r hR => ?_⟩
    refine ⟨_, rfl, a, dx, _, rfl, ka3, a, es, m1, m2, rfl, kd3, ?_⟩
    refine ⟨_, rfl, a, dx, _, rfl, ka3, a, es, m1, m2, rfl, kd3, es.length, rfl, by omega, ?_⟩
    refine ⟨_, rfl, a, dx, _, rfl, ka3, a, es, m1, m2, rfl, kd3, ok.ok, by omega, kTxt es, rfl, ?_⟩
    refine ⟨by show (6 : Nat) ≤ sizeLine; decide, fun O nO => ?_⟩
    have t3 := s1.trans (s2.trans s3)
    have t4 := t3.trans (Same.new (o := .lst [V.ref E, V.ref N, V.ref r, V.bl (decide (m2 = 0)), V.int ((es.length : Nat) : Int), V.str (kTxt es)]) nO)
    refine ⟨⟨_, rfl⟩, _, rfl, d, rfl, ⟨_, SqL.of (t4 _ _ hd)⟩, fun D nD => ?_⟩
    refine lc_pure (walk_list (xs := xs)) nD (by omega) (fun _ sm => SqL.of (sm _ _ (t4 _ _ hd))) (fun i y => ∃ e, es[i]? = some e ∧ y = .str (entTxt e)) (fun i x H5 H6 Kn Z hi sm y q => ?_) (fun H5 ys sm hD hl hrr => ?_)
    · obtain ⟨rfl, hx⟩ := y
      obtain ⟨e, he, t, rfl, ht⟩ := el.at hx
      have ht' := sm _ _ (t4 _ _ ht)
      have eo := ok.ok e (List.mem_of_getElem? he)
      refine ⟨rfl, ?_⟩
      exact ⟨_, rfl, t, [], _, _, rfl, ht', EntT.swl3 eo, by simp, by decide, Nat.le_trans (entTxt_len eo) (by decide), q _ _ (Same.refl _) ⟨e, he, rfl⟩⟩
    · obtain rfl := vals_of_at (f := entTxt) (hl.trans ln) hrr
      refine ⟨", ", D, es.map entTxt, rfl, rfl, .inl (SqL.of hD), ?_, ?_⟩
      · have q := sum_le (B := 10100) (l := es.map entTxt) fun t ht => by
          obtain ⟨e, he, rfl⟩ := List.mem_map.mp ht
          exact entTxt_len (ok.ok e he)
        rw [List.length_map] at q ⊢
        have e2 : (Str.ofString ", ").length = 2 := by decide +kernel
        rw [e2]
        omega
      have jl := kTxt_join ok.ok l0 (by omega)
      rw [strLen_append] at jl
      refine ⟨_, _, rfl, rfl, Nat.le_trans jl (by decide), ?_⟩
      have jl2 := kTxt_join ok.ok l0 (by omega)
      have e1 : (Str.ofString ")").length = 1 := by decide +kernel
      refine ⟨_, _, rfl, rfl, by rw [e1]; exact Nat.le_trans (m := 1100005) (by omega) (by decide), ?_⟩
      rw [kTxt_eq l0]
      have t5 := t4.trans sm
      have u5 : L2.Same H3 H5 := (Same.new nO).trans sm
      have hE5 := u5 _ _ (s3 _ _ hE)
      have hN5 := u5 _ _ hN
      have hR5 := u5 _ _ hR
      have hO5 := sm _ _ upd_same
      have elE5 := (elE.same s3).same u5
      have nn : ns ≠ [] := fun z => by
        have e0 := List.getElem_mem (l := es) (n := 0) (by omega)
        have m := (nof.2.2 es[0].2.2).mpr ⟨_, e0, rfl⟩
        rw [z] at m; cases m
      obtain ⟨as, sw, la, offs⟩ := six (K := K) hE5 elE5 ok.ok (by omega) (by omega) hN5 nn hR5 (bnd _ mx.1).1 (bnd _ mx.1).2 (bnd2 _ my.1).1 (bnd2 _ my.1).2
      have lz := told6_len (m1 := m1) (m2 := m2) ok.ok (by omega) nof (bnd _ mx.1).1 (bnd _ mx.1).2 (bnd2 _ my.1).1 (bnd2 _ my.1).2
      have offO : O ∉ as := fun hm => by
        rcases offs O hm with z | z | z | ⟨e, z⟩
        · rw [z, s3 _ _ hE] at nO; cases nO
        · rw [z, hN] at nO; cases nO
        · rw [z, hR] at nO; cases nO
        · rw [hO5] at z; cases z
      refine ⟨_, rfl, O, as, _, _, rfl, hO5, sw, by simp, offO, by omega, lz, ?_⟩
      refine ⟨_, rfl, _, rfl, d, rfl, ⟨_, SqL.of (t5 _ _ hd)⟩, fun D2 nD2 => ?_⟩
      refine lc_pure (walk_list (xs := xs)) nD2 (by omega) (fun _ sm => SqL.of (sm _ _ (t5 _ _ hd))) (fun i y => ∃ e, es[i]? = some e ∧ y = .str e.2.2) (fun i x H6 H7 Kn Z hi sm y q => ?_) (fun H6 ys sm6 hD2 hl2 hr2 => ?_)
      · obtain ⟨rfl, hx⟩ := y
        obtain ⟨e, he, t, rfl, ht⟩ := el.at hx
        have ht' := sm _ _ (t5 _ _ ht)
        exact ⟨rfl, _, rfl, t, _, _, _, rfl, rfl, SqT.of ht', rfl, q _ _ (Same.refl _) ⟨e, he, rfl⟩⟩
      · obtain rfl := vals_of_at (f := fun e : Ent => e.2.2) (hl2.trans ln) hr2
        have t6 := t5.trans sm6
        refine ⟨D2, es.map (·.2.2), rfl, SqL.of hD2, by rw [List.length_map]; omega, fun S L nS mL lL => ?_⟩
        rw [List.length_map] at lL
        refine ⟨S, L, rfl, upd_same, by omega, fun ss Pp srt nd mem le nP => ?_⟩
        obtain rfl := names_eq nof srt nd (fun x => (mem x).trans (mL x))
        have t7 := t6.trans ((Same.new nS).trans (Same.new (o := .lst (ss.map V.str)) nP))
        refine ⟨_, rfl, _, rfl, far, _, 1, _, rfl, rfl, SqT.of ((s2.trans (s3.trans u5)).trans (sm6.trans ((Same.new nS).trans (Same.new nP))) _ _ hf), rfl, rfl, ?_⟩
        rw [decV]
        refine ⟨_, rfl, d, xs, rfl, .inl (SqL.of (t7 _ _ hd)), ?_⟩
        rw [ln]
        refine ⟨_, rfl, by show (6 : Nat) ≤ sizeLine; decide, fun O2 nO2 => ?_⟩
        have t8 := t7.trans (Same.new (o := .lst [V.ref d, V.ref Pp, V.ref far, V.bl (decide (m2 = 0)), V.int ((es.length : Nat) : Int), V.str (kTxt es)]) nO2)
        have hP9 := (Same.new (o := .lst [V.ref d, V.ref Pp, V.ref far, V.bl (decide (m2 = 0)), V.int ((es.length : Nat) : Int), V.str (kTxt es)]) nO2) _ _ upd_same
        have hf8 := ((s2.trans (s3.trans u5)).trans (sm6.trans ((Same.new nS).trans (Same.new (o := .lst (ss.map V.str)) nP)))) _ _ hf
        have hf9 := (Same.new (o := .lst [V.ref d, V.ref Pp, V.ref far, V.bl (decide (m2 = 0)), V.int ((es.length : Nat) : Int), V.str (kTxt es)]) nO2) _ _ hf8
        obtain ⟨as2, sw2, la2, offs2⟩ := six (K := K) (t8 _ _ hd) (el.same t8) ok.ok (by omega) (by omega) hP9 nn hf9 (bnd _ mx.1).1 (bnd _ mx.1).2 (bnd2 _ my.1).1 (bnd2 _ my.1).2
        have offO2 : O2 ∉ as2 := fun hm => by
          rcases offs2 O2 hm with z | z | z | ⟨e, z⟩
          · rw [z, t7 _ _ hd] at nO2; cases nO2
          · rw [z, upd_same] at nO2; cases nO2
          · rw [z, hf8] at nO2; cases nO2
          · rw [upd_same] at z; cases z
        refine ⟨O2, as2, _, _, rfl, upd_same, sw2, by simp, offO2, by omega, lz, ?_⟩
        refine ⟨rfl, ?_⟩
        rw [decide_eq_true rfl]
        exact k _ t8
end
end K11

set_option Elab.async false
set_option linter.all false
set_option maxRecDepth 100000
set_option maxHeartbeats 4000000
namespace K11
open PySem L2 Lay Own SrtO
/-- right, with its reach -/
structure DueM (es : List Ent) (m1 m2 : Int) : Prop where
  d : Due es
  x : IsMax m1 (es.map (·.1))
  y : IsMax m2 (es.map (·.2.1))
theorem mv0 (e : Ent) : mv 0 0 e = e := by
  obtain ⟨a, b, c⟩ := e
  simp [mv]
theorem map_mv0 (es : List Ent) : es.map (mv 0 0) = es := by
  rw [List.map_congr_left (fun e _ => mv0 e), List.map_id']
theorem isMin_eq {a b : Int} {ns : List Int} (h : IsMin a ns) (g : IsMin b ns) : a = b := by
  have := h.2 b g.1
  have := g.2 a h.1
  omega
/-- what is made of entries whose least numbers are 0 -/
theorem kn_zero {es gs : List Ent} {n1 n2 : Int} (k : Kn es gs n1 n2) (x0 : IsMin 0 (es.map (·.1))) (y0 : IsMin 0 (es.map (·.2.1))) : gs.Perm es ∧ Sd entLt gs := by
  obtain ⟨lo, bo, hl, hb, pm, sd⟩ := k.n
  obtain rfl := isMin_eq hl x0
  obtain rfl := isMin_eq hb y0
  rw [map_mv0] at pm
  exact ⟨pm, sd⟩
theorem mem_map_perm {es gs : List Ent} {f : Ent → Int} (p : gs.Perm es) (z : Int) : z ∈ gs.map f ↔ z ∈ es.map f := (p.map f).mem_iff
theorem IsMax.perm {es gs : List Ent} {f : Ent → Int} {m : Int} (p : gs.Perm es) (h : IsMax m (gs.map f)) : IsMax m (es.map f) := ⟨(mem_map_perm p m).mp h.1, fun y hy => h.2 y ((mem_map_perm p y).mpr hy)⟩
theorem IsMin.perm {es gs : List Ent} {f : Ent → Int} {m : Int} (p : gs.Perm es) (h : IsMin m (gs.map f)) : IsMin m (es.map f) := ⟨(mem_map_perm p m).mp h.1, fun y hy => h.2 y ((mem_map_perm p y).mpr hy)⟩
/-- entries that are right but not sorted -/
structure DueU (es : List Ent) (m1 m2 : Int) : Prop where
  ok : EsOk es
  x0 : IsMin 0 (es.map (·.1))
  y0 : IsMin 0 (es.map (·.2.1))
  x : IsMax m1 (es.map (·.1))
  y : IsMax m2 (es.map (·.2.1))
  le : ∀ e ∈ es, e.1 ≤ 3 ∧ e.2.1 ≤ 3
  wd : ∀ e ∈ es, Wd e.2.2
theorem EsOk.perm {es gs : List Ent} (p : gs.Perm es) (h : EsOk es) : EsOk gs := ⟨by rw [p.length_eq]; exact h.l0, by rw [p.length_eq]; exact h.l1, p.nodup_iff.mpr h.nd, fun e he => h.ok e (p.mem_iff.mp he)⟩
theorem DueU.sorted {es gs : List Ent} {m1 m2 : Int} (h : DueU es m1 m2) (p : gs.Perm es) (s : Sd entLt gs) : DueM gs m1 m2 :=
  ⟨⟨h.ok.perm p, s, h.x0.perm p.symm, h.y0.perm p.symm, fun e he => h.le e (p.mem_iff.mp he), fun e he => h.wd e (p.mem_iff.mp he)⟩, h.x.perm p.symm, h.y.perm p.symm⟩
theorem DueM.u {es : List Ent} {m1 m2 : Int} (h : DueM es m1 m2) : DueU es m1 m2 := ⟨h.d.ok, h.d.x0, h.d.y0, h.x, h.y, h.d.le, h.d.wd⟩
theorem fMi_inj {m : Int} {e f : Ent} (h : fMi m e = fMi m f) : e = f := by
  obtain ⟨a, b, c⟩ := e
  obtain ⟨a', b', c'⟩ := f
  simp only [fMi, Prod.mk.injEq] at h
  obtain ⟨h1, h2, h3⟩ := h
  rw [show a = a' by omega, h2, h3]
theorem fTu_inj {e f : Ent} (h : fTu e = fTu f) : e = f := by
  obtain ⟨a, b, c⟩ := e
  obtain ⟨a', b', c'⟩ := f
  simp only [fTu, Prod.mk.injEq] at h
  obtain ⟨h1, h2, h3⟩ := h
  rw [h1, h2, h3]
theorem DueU.nn {es : List Ent} {m1 m2 : Int} (h : DueU es m1 m2) : ∀ e ∈ es, 0 ≤ e.1 ∧ e.1 ≤ m1 ∧ 0 ≤ e.2.1 ∧ e.2.1 ≤ m2 := fun e he => ⟨h.x0.2 _ (List.mem_map.mpr ⟨e, he, rfl⟩), h.x.2 _ (List.mem_map.mpr ⟨e, he, rfl⟩), h.y0.2 _ (List.mem_map.mpr ⟨e, he, rfl⟩), h.y.2 _ (List.mem_map.mpr ⟨e, he, rfl⟩)⟩
theorem DueU.m3 {es : List Ent} {m1 m2 : Int} (h : DueU es m1 m2) : 0 ≤ m1 ∧ m1 ≤ 3 ∧ 0 ≤ m2 ∧ m2 ≤ 3 := by
  obtain ⟨e, he, q⟩ := List.mem_map.mp h.x.1
  obtain ⟨f, hf, r⟩ := List.mem_map.mp h.y.1
  have q : e.1 = m1 := q
  have r : f.2.1 = m2 := r
  have a := h.nn e he
  have b := h.nn f hf
  have c := h.le e he
  have d := h.le f hf
  omega
theorem DueU.mi {es : List Ent} {m1 m2 : Int} (h : DueU es m1 m2) : DueU (es.map (fMi m1)) m1 m2 := by
  have b := h.m3
  obtain ⟨ex, hex, qx⟩ := List.mem_map.mp h.x.1
  obtain ⟨e0, he0, q0⟩ := List.mem_map.mp h.x0.1
  have qx : ex.1 = m1 := qx
  have q0 : e0.1 = 0 := q0
  have all : ∀ g ∈ es.map (fMi m1), 0 ≤ g.1 ∧ g.1 ≤ m1 ∧ 0 ≤ g.2.1 ∧ g.2.1 ≤ m2 ∧ Wd g.2.2 := fun g hg => by
    obtain ⟨e, he, rfl⟩ := List.mem_map.mp hg
    have a := h.nn e he
    exact ⟨by show 0 ≤ m1 - e.1; omega, by show m1 - e.1 ≤ m1; omega, a.2.2.1, a.2.2.2, h.wd e he⟩
  have y2 : (es.map (fMi m1)).map (·.2.1) = es.map (·.2.1) := by rw [List.map_map]; rfl
  refine ⟨⟨by rw [List.length_map]; exact h.ok.l0, by rw [List.length_map]; exact h.ok.l1, nodup_map (fun _ _ => fMi_inj) h.ok.nd, fun g hg => ?_⟩, ⟨?_, fun y hy => ?_⟩, by rw [y2]; exact h.y0, ⟨?_, fun y hy => ?_⟩, by rw [y2]; exact h.y, fun g hg => ?_, fun g hg => (all g hg).2.2.2.2⟩
  · have a := all g hg
    exact a.2.2.2.2.eok (by omega) (by omega) (by omega) (by omega)
  · exact List.mem_map.mpr ⟨fMi m1 ex, List.mem_map.mpr ⟨ex, hex, rfl⟩, by show m1 - ex.1 = 0; omega⟩
  · obtain ⟨g, hg, rfl⟩ := List.mem_map.mp hy
    exact (all g hg).1
  · exact List.mem_map.mpr ⟨fMi m1 e0, List.mem_map.mpr ⟨e0, he0, rfl⟩, by show m1 - e0.1 = m1; omega⟩
  · obtain ⟨g, hg, rfl⟩ := List.mem_map.mp hy
    exact (all g hg).2.1
  · have a := all g hg
    omega
theorem DueU.tu {es : List Ent} {m1 m2 : Int} (h : DueU es m1 m2) : DueU (es.map fTu) m2 m1 := by
  have x2 : (es.map fTu).map (·.1) = es.map (·.2.1) := by rw [List.map_map]; rfl
  have y2 : (es.map fTu).map (·.2.1) = es.map (·.1) := by rw [List.map_map]; rfl
  refine ⟨⟨by rw [List.length_map]; exact h.ok.l0, by rw [List.length_map]; exact h.ok.l1, nodup_map (fun _ _ => fTu_inj) h.ok.nd, fun g hg => ?_⟩, by rw [x2]; exact h.y0, by rw [y2]; exact h.x0, by rw [x2]; exact h.y, by rw [y2]; exact h.x, fun g hg => ?_, fun g hg => ?_⟩
  · obtain ⟨e, he, rfl⟩ := List.mem_map.mp hg
    have a := h.nn e he
    have b := h.m3
    exact Wd.eok (e := fTu e) (h.wd e he) (by show -20 ≤ e.2.1; omega) (by show e.2.1 ≤ 20; omega) (by show -20 ≤ e.1; omega) (by show e.1 ≤ 20; omega)
  · obtain ⟨e, he, rfl⟩ := List.mem_map.mp hg
    have a := h.le e he
    exact ⟨a.2, a.1⟩
  · obtain ⟨e, he, rfl⟩ := List.mem_map.mp hg
    exact h.wd e he
/-- what a kind made of right entries is -/
theorem DueU.kn {es gs : List Ent} {m1 m2 n1 n2 : Int} (h : DueU es m1 m2) (k : Kn es gs n1 n2) : n1 = m1 ∧ n2 = m2 ∧ gs.Perm es ∧ DueM gs m1 m2 := by
  obtain ⟨pm, sd⟩ := kn_zero k h.x0 h.y0
  have d := h.sorted pm sd
  exact ⟨isMax_eq k.x d.x, isMax_eq k.y d.y, pm, d⟩
theorem DueU.kle {es : List Ent} {m1 m2 : Int} (h : DueU es m1 m2) : ∀ fs n1 n2, Kn es fs n1 n2 → n1 ≤ 3 ∧ n2 ≤ 3 := fun fs n1 n2 k => by
  obtain ⟨rfl, rfl, _, _⟩ := h.kn k
  have := h.m3
  omega
theorem map_mi2 (m : Int) (es : List Ent) : (es.map (fMi m)).map (fMi m) = es := by
  rw [List.map_map]
  refine (List.map_congr_left fun e _ => ?_).trans (List.map_id es)
  obtain ⟨a, b, c⟩ := e
  simp only [Function.comp, fMi, id]
  rw [show m - (m - a) = a by omega]
theorem map_tu2 (es : List Ent) : (es.map fTu).map fTu = es := by
  rw [List.map_map]
  exact (List.map_congr_left fun e _ => rfl).trans (List.map_id es)
/-- two sorted lists of the same entries -/
theorem due_eq {es gs : List Ent} (a : Sd entLt es) (b : Sd entLt gs) (p : es.Perm gs) : es = gs := sd_uniq tot_ent p a b
end K11

set_option Elab.async false
set_option linter.all false
set_option maxRecDepth 100000
set_option maxHeartbeats 4000000
namespace K11
open PySem L2 Lay Own SrtO
local macro_rules | `(tactic| walk_at "ne") => `(tactic| first | assumption | (apply Ne.symm; assumption) | exact ne_of_none (by walk_at "look") (by assumption) | exact (ne_of_none (by walk_at "look") (by assumption)).symm)
local macro_rules | `(tactic| walk_at "look") => `(tactic| first | assumption | exact upd_same | (refine Eq.trans (upd_ne ?_) ?_; walk_at "ne"; walk_at "look"))
local macro_rules | `(tactic| walk_at "rds") => `(tactic| first | rfl | assumption | walk_at "look" | exact SqL.of (by walk_at "look") | exact SqT.of (by walk_at "look") | exact Or.inl (SqL.of (by walk_at "look")) | exact Or.inl (by assumption) | decide | omega | exact Nat.le_of_ble_eq_true rfl | exact Or.inr ⟨by decide, by decide⟩ | exact Or.inl ⟨by omega, by omega⟩ | exact ⟨by decide, by decide⟩)
local macro_rules | `(tactic| walk_at "rd1") => `(tactic| first | (apply Exists.intro) | (refine And.intro ?_ ?_; walk_at "rds") | (refine Or.inl ?_; apply Exists.intro; refine And.intro ?_ ?_; rfl))
local macro_rules | `(tactic| walk_at "rd") => `(tactic| repeat walk_at "rd1")
section
variable {P : Program} {w : World} {K : PySem.W.Frag} {mg : Str → Option Value} {base : Heap}
/-! turned right -/
theorem nf_self {K : PySem.W.Frag} {C : Addr} : PySem.W.notFirst K C (.ref C) = true := by
  unfold PySem.W.notFirst
  simp
theorem mir {H : Hp} {x : Addr} {gs : List Ent} {a1 a2 : Int} {Q : VK} {σ : L2.St} (kx : KindAt K H x gs a1 a2) (dm : DueM gs a1 a2) (k : ∀ x' hs H', L2.Same H H' → KindAt K H' x' hs a1 a2 → DueM hs a1 a2 → hs.Perm (gs.map (fMi a1)) → Q (.ref x') H') :
    ∃ a' dx fs, (V.ref x : V) = .ref a' ∧ H a' = some (.ins (kc K) dx fs) ∧ fs.lookup ("mirrored" : Str) = none ∧ tNil σ H fun vs H2 => spMi K fMi (.ref a' :: vs) H2 Q E0 := by
  obtain ⟨dx, t, r, zs, ha, _⟩ := id kx
  refine ⟨x, dx, _, rfl, ha, rfl, x, gs, a1, a2, rfl, kx, dm.u.mi.ok, dm.u.mi.kle, fun x' hs n1 n2 H' s _ k' kn => ?_⟩
  obtain ⟨rfl, rfl, pm, d'⟩ := dm.u.mi.kn kn
  exact k x' hs H' s k' d' pm
theorem tur {H : Hp} {x : Addr} {gs : List Ent} {a1 a2 : Int} {Q : VK} {σ : L2.St} (kx : KindAt K H x gs a1 a2) (dm : DueM gs a1 a2) (k : ∀ x' hs H', L2.Same H H' → KindAt K H' x' hs a2 a1 → DueM hs a2 a1 → hs.Perm (gs.map fTu) → Q (.ref x') H') :
    ∃ a' dx fs, (V.ref x : V) = .ref a' ∧ H a' = some (.ins (kc K) dx fs) ∧ fs.lookup ("turned" : Str) = none ∧ tNil σ H fun vs H2 => spMi K (fun _ => fTu) (.ref a' :: vs) H2 Q E0 := by
  obtain ⟨dx, t, r, zs, ha, _⟩ := id kx
  refine ⟨x, dx, _, rfl, ha, rfl, x, gs, a1, a2, rfl, kx, dm.u.tu.ok, dm.u.tu.kle, fun x' hs n1 n2 H' s _ k' kn => ?_⟩
  obtain ⟨rfl, rfl, pm, d'⟩ := dm.u.tu.kn kn
  exact k x' hs H' s k' d' pm
/-- turned halfway round -/
def fRo (m1 m2 : Int) (e : Ent) : Ent := (m1 - e.1, m2 - e.2.1, e.2.2)
/-- o != made, both of the same entries -/
theorem neq (T : Txt K mg) {H : Hp} {x a : Addr} {es : List Ent} {a1 a2 b1 b2 : Int} {Q : VK} (kx : KindAt K H x es a1 a2) (ka : KindAt K H a es b1 b2) (ok : ∀ e ∈ es, EOk e) (k : Q (.bl false) H) : rEqP K (kc K) (spEqK K) true (.ref x) (.ref a) H Q := by
  obtain ⟨dx, t, r, zs, h1, _⟩ := id kx
  obtain ⟨dx2, t2, r2, zs2, h2, _⟩ := id ka
  refine ⟨x, dx, _, .ref (kc K), rfl, h1, own_ty T h2, nf_self, x, es, a1, a2, .ref a, rfl, kx, ok, .inl ⟨a, es, b1, b2, rfl, ka, ok, _, rfl, ?_⟩⟩
  rw [decide_eq_true rfl]
  exact k
theorem told_sp {H : Hp} {a d : Addr} {m1 m2 : Int} {es : List Ent} {xs : List V} {Q : VK} (ka : KindAt K H a es m1 m2) (dm : DueM es m1 m2) (hd : H d = some (.lst xs)) (el : EL H xs es) (k : ∀ H', L2.Same H H' → Q (.bl true) H') : spTold K [.ref a, .ref d] H Q E0 :=
  ⟨a, d, m1, m2, es, xs, rfl, ka, dm.x, dm.y, hd, el, dm.d.ok, k⟩
def spTrn (K : PySem.W.Frag) : Sp := fun vs H Q _ => ∃ a d m1 m2 es xs, vs = [.ref a, .ref d] ∧ KindAt K H a es m1 m2 ∧ DueM es m1 m2 ∧ H d = some (.lst xs) ∧ EL H xs es ∧ ∀ H', L2.Same H H' → Q (.bl true) H'
theorem d_turned_right (T : Txt K mg) : Df P w K mg base 11 "_law_turned_right" ["_law_made", "_law_due"] (spTrn K) := by
  have D_l_far := d_far (P := P) (w := w) (base := base) T
  have D_l_told_right := d_told_right (P := P) (w := w) (base := base) T
  refine T.S_l_turned_right.by sc_l_turned_right (fun vs H Q E h => ?_) (fun f cdv A outer s H vs Q E hr hgd h => ?_)
  · obtain ⟨a, d, m1, m2, es, xs, rfl, _⟩ := h; rfl
  · obtain ⟨a, d, m1, m2, es, xs, rfl, kd, du, hd, el, k⟩ := h
    refine ⟨_, (pss_cons (ps_set (i := 2) sc_l_turned_right.nd rfl (by first | exact Or.inl rfl | exact Or.inr rfl) (pe_own D_l_far (hr.mono (by first | decide | omega)) hgd (pa_cons (pv 1) pa_nil)))
      (pss_cons (ps_set (i := 3) sc_l_turned_right.nd rfl (by first | exact Or.inl rfl | exact Or.inr rfl) (pe_callB  cr_sortE (by rfl) T.n_sorted (by decide +kernel) (pa_cons (pe_lc (own := [("_law_part", 6)]) rfl sc_l_turned_right.nd (pi_list (pv 1)) (blkOk_by (own := [("_law_part", 6)]) (N := ["_law_made", "_law_due", "_law_far_here", "_law_sides", "_law_over", "_law_back", "_law_part"]) (sc := defScope s_l_turned_right) (by decide +kernel)) (fun _ _ _ _ _ => (pg_name (i := 6) sc_l_turned_right.nd rfl (by first | exact Or.inl rfl | exact Or.inr rfl))) (fun _ _ _ _ _ => pts_nil) (fun _ _ _ _ _ => (pe_tup (pa_cons (pe_op op_sub (pe_ix  (ix_tupK (C := K) rfl) (pv 2) pe_int (fun _ _ => rfl)) (pe_ix  (ix_tupK (C := K) rfl) (pv 6) pe_int (fun _ _ => rfl))) (pa_cons (pe_ix  (ix_tupK (C := K) rfl) (pv 6) pe_int (fun _ _ => rfl)) (pa_cons (pe_ix  (ix_tupK (C := K) rfl) (pv 6) pe_int (fun _ _ => rfl)) pa_nil)))))) pa_nil)))
      (pss_cons (ps_set (i := 4) sc_l_turned_right.nd rfl (by first | exact Or.inl rfl | exact Or.inr rfl) (pe_callB  cr_sortE (by rfl) T.n_sorted (by decide +kernel) (pa_cons (pe_lc (own := [("_law_part", 6)]) rfl sc_l_turned_right.nd (pi_list (pv 1)) (blkOk_by (own := [("_law_part", 6)]) (N := ["_law_made", "_law_due", "_law_far_here", "_law_sides", "_law_over", "_law_back", "_law_part"]) (sc := defScope s_l_turned_right) (by decide +kernel)) (fun _ _ _ _ _ => (pg_name (i := 6) sc_l_turned_right.nd rfl (by first | exact Or.inl rfl | exact Or.inr rfl))) (fun _ _ _ _ _ => pts_nil) (fun _ _ _ _ _ => (pe_tup (pa_cons (pe_ix  (ix_tupK (C := K) rfl) (pv 6) pe_int (fun _ _ => rfl)) (pa_cons (pe_ix  (ix_tupK (C := K) rfl) (pv 6) pe_int (fun _ _ => rfl)) (pa_cons (pe_ix  (ix_tupK (C := K) rfl) (pv 6) pe_int (fun _ _ => rfl)) pa_nil)))))) pa_nil)))
      (pss_cons (ps_if (PW.pt (pw_or (pt_not (pt_val (pe_own D_l_told_right (hr.mono (by first | decide | omega)) hgd (pa_cons (pe_methP0 (pv 0) T.cls T.m_mirrored (d_mirrored T).fp (hr.mono (by first | decide | omega)) hgd) (pa_cons (pv 3) pa_nil))))) (pw_or1 (pt_not (pt_val (pe_own D_l_told_right (hr.mono (by first | decide | omega)) hgd (pa_cons (pe_methP0 (pv 0) T.cls T.m_turned (d_turned T).fp (hr.mono (by first | decide | omega)) hgd) (pa_cons (pv 4) pa_nil)))))))) (pss_one (ps_ret pe_bl)) pss_nil)
      (pss_cons (ps_if (PW.pt (pw_or (pt_cmpR (op_neP T.f___eq__ T.i___eq__ T.ne T.mo (d_eq T).fp (hr.mono (by decide)) hgd) (pe_methP0 (pe_methP0 (pv 0) T.cls T.m_mirrored (d_mirrored T).fp (hr.mono (by first | decide | omega)) hgd) T.cls T.m_mirrored (d_mirrored T).fp (hr.mono (by first | decide | omega)) hgd) (pv 0) (nomark _)) (pw_or1 (pt_cmpR (op_neP T.f___eq__ T.i___eq__ T.ne T.mo (d_eq T).fp (hr.mono (by decide)) hgd) (pe_methP0 (pe_methP0 (pv 0) T.cls T.m_turned (d_turned T).fp (hr.mono (by first | decide | omega)) hgd) T.cls T.m_turned (d_turned T).fp (hr.mono (by first | decide | omega)) hgd) (pv 0) (nomark _))))) (pss_one (ps_ret pe_bl)) pss_nil)
      (pss_cons (ps_set (i := 5) sc_l_turned_right.nd rfl (by first | exact Or.inl rfl | exact Or.inr rfl) (pe_methP0 (pe_methP0 (pe_methP0 (pe_methP0 (pv 0) T.cls T.m_turned (d_turned T).fp (hr.mono (by first | decide | omega)) hgd) T.cls T.m_mirrored (d_mirrored T).fp (hr.mono (by first | decide | omega)) hgd) T.cls T.m_turned (d_turned T).fp (hr.mono (by first | decide | omega)) hgd) T.cls T.m_mirrored (d_mirrored T).fp (hr.mono (by first | decide | omega)) hgd))
      (pss_one (ps_ret (pe_own D_l_told_right (hr.mono (by first | decide | omega)) hgd (pa_cons (pv 5) (pa_cons (pe_callB  cr_sortE (by rfl) T.n_sorted (by decide +kernel) (pa_cons (pe_lc (own := [("_law_part", 6)]) rfl sc_l_turned_right.nd (pi_list (pv 1)) (blkOk_by (own := [("_law_part", 6)]) (N := ["_law_made", "_law_due", "_law_far_here", "_law_sides", "_law_over", "_law_back", "_law_part"]) (sc := defScope s_l_turned_right) (by decide +kernel)) (fun _ _ _ _ _ => (pg_name (i := 6) sc_l_turned_right.nd rfl (by first | exact Or.inl rfl | exact Or.inr rfl))) (fun _ _ _ _ _ => pts_nil) (fun _ _ _ _ _ => (pe_tup (pa_cons (pe_op op_sub (pe_ix  (ix_tupK (C := K) rfl) (pv 2) pe_int (fun _ _ => rfl)) (pe_ix  (ix_tupK (C := K) rfl) (pv 6) pe_int (fun _ _ => rfl))) (pa_cons (pe_op op_sub (pe_ix  (ix_tupK (C := K) rfl) (pv 2) pe_int (fun _ _ => rfl)) (pe_ix  (ix_tupK (C := K) rfl) (pv 6) pe_int (fun _ _ => rfl))) (pa_cons (pe_ix  (ix_tupK (C := K) rfl) (pv 6) pe_int (fun _ _ => rfl)) pa_nil)))))) pa_nil)) pa_nil))))))))))), ?_⟩
    have ln := el.len
    have l0 := du.d.ok.l0
    have l1 := du.d.ok.l1
    refine ⟨_, rfl, d, xs, es, rfl, hd, el, by omega, by omega, fun far n1 n2 H1 s1 nf hf hx hy => ?_⟩
    obtain rfl := isMax_eq du.x hx
    obtain rfl := isMax_eq du.y hy
    refine ⟨_, rfl, d, rfl, ⟨_, SqL.of (s1 _ _ hd)⟩, fun D nD => ?_⟩
    refine lc_depI (walk_list (xs := xs)) nD (by omega) (fun _ sm => SqL.of (sm _ _ (s1 _ _ hd))) (fun i H v => ∃ e, es[i]? = some e ∧ EntT H v (fMi m1 e)) (fun i H H' v s ⟨e, he, h⟩ => ⟨e, he, h.same s⟩) (fun i H xs ys v hD ⟨e, he, h⟩ => ⟨e, he, h.mut hD⟩) (fun i x H6 H7 Kn Z hi sm _ y q => ?_) (fun H6 ys sm hD hl hr3 => ?_)
    · obtain ⟨rfl, hx⟩ := y
      obtain ⟨e, he, u, rfl, hu⟩ := el.at hx
      have hu' := sm _ _ (s1 _ _ hu)
      have hf' := sm _ _ hf
      walk_at "rd"
      exact fun p np => q _ _ (Same.new np) ⟨e, he, p, rfl, upd_same⟩
    have elA : EL H6 ys (es.map (fMi m1)) := el_of (hl.trans ln) hr3
    refine ⟨D, ys, _, rfl, SqL.of hD, elA, fun zs gs p elg sd pm np => ?_⟩
    have dA := du.u.mi.sorted pm sd
    have hfA := (Same.new (o := .lst zs) np) _ _ (sm _ _ hf)
    have sA := (s1.trans sm).trans (Same.new (o := .lst zs) np)
    have hA : (upd H6 p (.lst zs)) p = some (.lst zs) := upd_same
    have elA2 := elg.same (Same.new (o := .lst zs) np)
    generalize upd H6 p (.lst zs) = HA at hfA sA hA elA2
    clear elA elg hr3 hD
    refine ⟨_, rfl, d, rfl, ⟨_, SqL.of (sA _ _ hd)⟩, fun D nD => ?_⟩
    refine lc_depI (walk_list (xs := xs)) nD (by omega) (fun _ sm => SqL.of (sm _ _ (sA _ _ hd))) (fun i H v => ∃ e, es[i]? = some e ∧ EntT H v (fTu e)) (fun i H H' v s ⟨e, he, h⟩ => ⟨e, he, h.same s⟩) (fun i H xs ys v hD ⟨e, he, h⟩ => ⟨e, he, h.mut hD⟩) (fun i x H6 H7 Kn Z hi sm _ y q => ?_) (fun H6 ys sm hD hl hr3 => ?_)
    · obtain ⟨rfl, hx⟩ := y
      obtain ⟨e, he, u, rfl, hu⟩ := el.at hx
      have hu' := sm _ _ (sA _ _ hu)
      have hf' := sm _ _ hfA
      walk_at "rd"
      exact fun p np => q _ _ (Same.new np) ⟨e, he, p, rfl, upd_same⟩
    have elB : EL H6 ys (es.map fTu) := el_of (hl.trans ln) hr3
    refine ⟨D, ys, _, rfl, SqL.of hD, elB, fun zs2 gs2 p2 elg2 sd2 pm2 np2 => ?_⟩
    have dB := du.u.tu.sorted pm2 sd2
    have sB0 := sm.trans (Same.new (o := .lst zs2) np2)
    have sB := sA.trans sB0
    have hB : (upd H6 p2 (.lst zs2)) p2 = some (.lst zs2) := upd_same
    have elB2 := elg2.same (Same.new (o := .lst zs2) np2)
    generalize upd H6 p2 (.lst zs2) = HB at sB0 sB hB elB2
    have kB := kd.same sB
    refine ⟨_, rfl, mir kB du fun x1 g1 H2 t1 k1 d1 q1 => ?_⟩
    obtain rfl := due_eq d1.d.sd dA.d.sd (q1.trans pm.symm)
    refine ⟨_, rfl, x1, p, m1, m2, _, _, rfl, k1, d1.x, d1.y, t1 _ _ (sB0 _ _ hA), (elA2.same sB0).same t1, d1.d.ok, fun H3 t2 => ?_⟩
    refine ⟨_, rfl, ?_⟩
    refine iteF ?_
    have t12 := t1.trans t2
    refine ⟨_, rfl, tur (kB.same t12) du fun x2 g2 H4 t3 k2 d2 q2 => ?_⟩
    obtain rfl := due_eq d2.d.sd dB.d.sd (q2.trans pm2.symm)
    refine ⟨_, rfl, x2, p2, m2, m1, _, _, rfl, k2, d2.x, d2.y, t3 _ _ (t12 _ _ hB), (elB2.same t12).same t3, d2.d.ok, fun H5 t4 => ?_⟩
    refine ⟨_, rfl, ?_⟩
    refine iteF ?_
    have u5 := t12.trans (t3.trans t4)
    have k5 := kB.same u5
    refine ⟨_, rfl, mir k5 du fun x3 g3 H7 t5 k3 d3 q3 => mir k3 d3 fun x4 g4 H8 t6 k4 d4 q4 => ?_⟩
    have e4 : g4 = es := due_eq d4.d.sd du.d.sd (q4.trans ((q3.map _).trans (by rw [map_mi2])))
    subst e4
    have k8 := k5.same (t5.trans t6)
    refine ⟨_, rfl, neq T k4 k8 du.d.ok.ok ?_⟩
    refine ⟨_, rfl, ?_⟩
    refine iteF ?_
    refine ⟨_, rfl, tur k8 du fun x5 g5 H9 t7 k6 d5 q5 => tur k6 d5 fun x6 g6 HC t8 k7 d6 q6 => ?_⟩
    have e6 : g6 = g4 := due_eq d6.d.sd du.d.sd (q6.trans ((q5.map _).trans (by rw [map_tu2])))
    subst e6
    have k9 := k8.same (t7.trans t8)
    refine ⟨_, rfl, neq T k7 k9 du.d.ok.ok ?_⟩
    refine ⟨_, rfl, ?_⟩
    refine iteF ?_
    have sC := sB.trans (u5.trans ((t5.trans t6).trans (t7.trans t8)))
    refine ⟨_, rfl, tur k9 du fun y1 h1 HD v1 c1 b1 w1 => mir c1 b1 fun y2 h2 HE v2 c2 b2 w2 => tur c2 b2 fun y3 h3 HF v3 c3 b3 w3 => mir c3 b3 fun y4 h4 HG v4 c4 b4 w4 => ?_⟩
    have sG := sC.trans (v1.trans (v2.trans (v3.trans v4)))
    have wG := u5.trans (((t5.trans t6).trans (t7.trans t8)).trans (v1.trans (v2.trans (v3.trans v4))))
    have hfG := wG _ _ (sB0 _ _ hfA)
    refine ⟨_, rfl, _, rfl, d, rfl, ⟨_, SqL.of (sG _ _ hd)⟩, fun D nD => ?_⟩
    refine lc_depI (walk_list (xs := xs)) nD (by omega) (fun _ sm => SqL.of (sm _ _ (sG _ _ hd))) (fun i H v => ∃ e, g6[i]? = some e ∧ EntT H v (fRo m1 m2 e)) (fun i H H' v s ⟨e, he, h⟩ => ⟨e, he, h.same s⟩) (fun i H xs ys v hD ⟨e, he, h⟩ => ⟨e, he, h.mut hD⟩) (fun i x H6 H7 Kn Z hi sm _ y q => ?_) (fun H6 ys sm hD hl hr3 => ?_)
    · obtain ⟨rfl, hx⟩ := y
      obtain ⟨e, he, u, rfl, hu⟩ := el.at hx
      have hu' := sm _ _ (sG _ _ hu)
      have hf' := sm _ _ hfG
      walk_at "rd"
      exact fun p np => q _ _ (Same.new np) ⟨e, he, p, rfl, upd_same⟩
    have elC : EL H6 ys (g6.map (fRo m1 m2)) := el_of (hl.trans ln) hr3
    refine ⟨D, ys, _, rfl, SqL.of hD, elC, fun zs3 gs3 p3 elg3 sd3 pm3 np3 => ?_⟩
    have w : h4.Perm (g6.map (fRo m1 m2)) := by
      refine w4.trans (((w3.trans ((w2.trans (w1.map _)).map _)).map _).trans ?_)
      rw [List.map_map, List.map_map, List.map_map]
      exact List.Perm.refl _
    have eh : gs3 = h4 := due_eq sd3 b4.d.sd (pm3.trans w.symm)
    subst eh
    have sN := sm.trans (Same.new (o := .lst zs3) np3)
    exact ⟨y4, p3, m1, m2, _, zs3, rfl, c4.same sN, b4.x, b4.y, upd_same, elg3.same (Same.new np3), b4.d.ok, fun H' s' => k H' ((sG.trans sN).trans s')⟩
end
end K11

set_option Elab.async false
set_option linter.all false
set_option maxRecDepth 100000
set_option maxHeartbeats 4000000
namespace K11
open PySem L2 Lay Own SrtO
local macro_rules | `(tactic| walk_at "ne") => `(tactic| first | assumption | (apply Ne.symm; assumption) | exact ne_of_none (by walk_at "look") (by assumption) | exact (ne_of_none (by walk_at "look") (by assumption)).symm)
local macro_rules | `(tactic| walk_at "look") => `(tactic| first | assumption | exact upd_same | (refine Eq.trans (upd_ne ?_) ?_; walk_at "ne"; walk_at "look"))
local macro_rules | `(tactic| walk_at "rds") => `(tactic| first | rfl | assumption | walk_at "look" | exact SqL.of (by walk_at "look") | exact SqT.of (by walk_at "look") | exact Or.inl (SqL.of (by walk_at "look")) | exact Or.inl (by assumption) | decide | omega | exact Nat.le_of_ble_eq_true rfl | exact Or.inr ⟨by decide, by decide⟩ | exact Or.inl ⟨by omega, by omega⟩ | exact ⟨by decide, by decide⟩)
local macro_rules | `(tactic| walk_at "rd1") => `(tactic| first | (apply Exists.intro) | (refine And.intro ?_ ?_; walk_at "rds") | (refine Or.inl ?_; apply Exists.intro; refine And.intro ?_ ?_; rfl))
local macro_rules | `(tactic| walk_at "rd") => `(tactic| repeat walk_at "rd1")
section
variable {P : Program} {w : World} {K : PySem.W.Frag} {mg : Str → Option Value} {base : Heap}
/-! things that are no entries -/
def NoE (K : PySem.W.Frag) (H : Hp) (x : V) : Prop := It K H x ∧ ((∀ a, x ≠ .ref a) ∨ (∃ a o, x = .ref a ∧ H a = some o ∧ ∀ ys, o = .tup ys → ys.length ≠ 3) ∨
  ∃ a x1 x2 x3, x = .ref a ∧ H a = some (.tup [x1, x2, x3]) ∧ It K H x1 ∧ It K H x2 ∧ It K H x3 ∧ (dB x1 && (dB x2 && nB x3)) = false)
theorem NoE.same {K : PySem.W.Frag} {H H' : Hp} {x : V} (h : NoE K H x) (s : L2.Same H H') : NoE K H' x := by
  obtain ⟨it, h⟩ := h
  refine ⟨it.same s, ?_⟩
  rcases h with h | ⟨a, o, e, ha, n⟩ | ⟨a, x1, x2, x3, e, ha, i1, i2, i3, b⟩
  · exact .inl h
  · exact .inr (.inl ⟨a, o, e, s _ _ ha, n⟩)
  · exact .inr (.inr ⟨a, x1, x2, x3, e, s _ _ ha, i1.same s, i2.same s, i3.same s, b⟩)
theorem NoE.sp {K : PySem.W.Frag} {H : Hp} {x : V} (h : NoE K H x) : It K H x ∧ ((∀ a xs, x = .ref a → H a = some (.tup xs) → xs.length ≠ 3) ∨ ∃ a x1 x2 x3, x = .ref a ∧ H a = some (.tup [x1, x2, x3]) ∧ It K H x1 ∧ It K H x2 ∧ It K H x3 ∧ (dB x1 && (dB x2 && nB x3)) = false) := by
  obtain ⟨it, h⟩ := h
  refine ⟨it, ?_⟩
  rcases h with h | ⟨a, o, e, ha, n⟩ | h
  · exact .inl fun a xs e => absurd e (h a)
  · subst e
    refine .inl fun b xs e hb => ?_
    cases e
    rw [ha] at hb
    cases hb
    exact n xs rfl
  · exact .inr h
theorem noE_lst {K : PySem.W.Frag} {H : Hp} {a : Addr} {xs : List V} (h : H a = some (.lst xs)) : NoE K H (.ref a) := ⟨.lst h, .inr (.inl ⟨a, _, rfl, h, fun ys e => by cases e⟩)⟩
theorem noE_tup {K : PySem.W.Frag} {H : Hp} {a : Addr} {xs : List V} (h : H a = some (.tup xs)) (n : xs.length ≠ 3) : NoE K H (.ref a) := ⟨.tup h, .inr (.inl ⟨a, _, rfl, h, fun ys e => by cases e; exact n⟩)⟩
theorem noE_own {K : PySem.W.Frag} {H : Hp} {a dx : Addr} {fs : List (Str × V)} (h : H a = some (.ins (kc K) dx fs)) : NoE K H (.ref a) := ⟨.own h, .inr (.inl ⟨a, _, rfl, h, fun ys e => by cases e⟩)⟩
theorem noE_3 {K : PySem.W.Frag} {H : Hp} {a : Addr} {x1 x2 x3 : V} (h : H a = some (.tup [x1, x2, x3])) (i1 : It K H x1) (i2 : It K H x2) (i3 : It K H x3) (b : (dB x1 && (dB x2 && nB x3)) = false) : NoE K H (.ref a) := ⟨.tup h, .inr (.inr ⟨a, x1, x2, x3, rfl, h, i1, i2, i3, b⟩)⟩
/-! among right -/
theorem el_ex {H : Hp} : ∀ {ys : List V}, (∀ (i : Nat) y, ys[i]? = some y → ∃ g, EntT H y g ∧ EOk g) → ∃ gs, EL H ys gs ∧ ∀ g ∈ gs, EOk g
  | [], _ => ⟨[], .nil, fun g hg => by cases hg⟩
  | y :: ys, h => by
    obtain ⟨g, e, o⟩ := h 0 y rfl
    obtain ⟨gs, el, ok⟩ := el_ex (ys := ys) fun i z hz => h (i + 1) z (by simpa using hz)
    refine ⟨g :: gs, .cons e el, fun x hx => ?_⟩
    rcases List.mem_cons.mp hx with rfl | hx
    · exact o
    · exact ok x hx
theorem un65 {k : Nat} {B : Around} (hr : Room k B) : B.units + 65 < cLine := by
  have := hr.un
  omega
def spAmg (K : PySem.W.Frag) : Sp := fun vs H Q _ => ∃ p a d m1 m2 es xs, vs = [.ref p, .ref a, .ref d] ∧ H p = some (PotO p) ∧ KindAt K H a es m1 m2 ∧ DueM es m1 m2 ∧ H d = some (.lst xs) ∧ EL H xs es ∧ ∀ H', L2.Same H H' → Q (.bl true) H'
theorem d_among_right (T : Txt K mg) : Df P w K mg base 6 "_law_among_right" ["_law_pot_here", "_law_made", "_law_due"] (spAmg K) := by
  have D_l_draw := d_draw (P := P) (w := w) (base := base) T
  refine T.S_l_among_right.by sc_l_among_right (fun vs H Q E h => ?_) (fun f cdv A outer s H vs Q E hr hgd h => ?_)
  · obtain ⟨p, a, d, m1, m2, es, xs, rfl, _⟩ := h; rfl
  · obtain ⟨p, a, d, m1, m2, es, xs, rfl, hp, kd, du, hd, el, k⟩ := h
    refine ⟨_, (pss_cons (ps_setLc (i := 3) (own := [("_law_part", 4)]) rfl sc_l_among_right.nd rfl rfl (sw_true rfl rfl rfl (by decide +kernel)) (pi_list (pv 2)) (blkOk_by (own := [("_law_part", 4)]) (N := ["_law_pot_here", "_law_made", "_law_due", "_law_near", "_law_part", "_law_some", "_law_thing"]) (sc := defScope s_l_among_right) (by decide +kernel)) (fun _ _ _ _ _ => (pg_name (i := 4) sc_l_among_right.nd rfl (by first | exact Or.inl rfl | exact Or.inr rfl))) (fun _ _ _ _ _ => pts_nil) (fun _ _ _ _ _ => (pe_tup (pa_cons (pe_op op_sub (pe_op op_add (pe_ix  (ix_tupK (C := K) rfl) (pv 4) pe_int (fun _ _ => rfl)) (pe_own D_l_draw (hr.mono (by first | decide | omega)) hgd (pa_cons (pv 0) (pa_cons pe_int pa_nil)))) pe_int) (pa_cons (pe_ix  (ix_tupK (C := K) rfl) (pv 4) pe_int (fun _ _ => rfl)) (pa_cons (pe_ix  (ix_tupK (C := K) rfl) (pv 4) pe_int (fun _ _ => rfl)) pa_nil))))))
      (pss_cons (ps_set (i := 3) sc_l_among_right.nd rfl (by first | exact Or.inl rfl | exact Or.inr rfl) (pe_op op_cat (pe_op op_cat (pv 3) (pe_lc (own := [("_law_part", 4)]) rfl sc_l_among_right.nd (pi_list (pv 2)) (blkOk_by (own := [("_law_part", 4)]) (N := ["_law_pot_here", "_law_made", "_law_due", "_law_near", "_law_part", "_law_some", "_law_thing"]) (sc := defScope s_l_among_right) (by decide +kernel)) (fun _ _ _ _ _ => (pg_name (i := 4) sc_l_among_right.nd rfl (by first | exact Or.inl rfl | exact Or.inr rfl))) (fun _ _ _ _ _ => pts_nil) (fun _ _ _ _ _ => (pe_tup (pa_cons (pe_ix  (ix_tupK (C := K) rfl) (pv 4) pe_int (fun _ _ => rfl)) (pa_cons (pe_op op_add (pe_ix  (ix_tupK (C := K) rfl) (pv 4) pe_int (fun _ _ => rfl)) pe_int) (pa_cons (pe_ix  (ix_tupK (C := K) rfl) (pv 4) pe_int (fun _ _ => rfl)) pa_nil))))))) (pe_lc (own := [("_law_part", 4)]) rfl sc_l_among_right.nd (pi_list (pv 2)) (blkOk_by (own := [("_law_part", 4)]) (N := ["_law_pot_here", "_law_made", "_law_due", "_law_near", "_law_part", "_law_some", "_law_thing"]) (sc := defScope s_l_among_right) (by decide +kernel)) (fun _ _ _ _ _ => (pg_name (i := 4) sc_l_among_right.nd rfl (by first | exact Or.inl rfl | exact Or.inr rfl))) (fun _ _ _ _ _ => pts_nil) (fun _ _ _ _ _ => (pe_tup (pa_cons (pe_ix  (ix_tupK (C := K) rfl) (pv 4) pe_int (fun _ _ => rfl)) (pa_cons (pe_ix  (ix_tupK (C := K) rfl) (pv 4) pe_int (fun _ _ => rfl)) (pa_cons (pe_ix  (ix_tupK (C := K) rfl) (pv 4) pe_int (fun _ _ => rfl)) pa_nil))))))))
      (pss_cons (ps_for PassesOwn.never rfl (pi_list (pe_op op_cat (pv 2) (pv 3))) (pg_name (i := 4) sc_l_among_right.nd rfl (by first | exact Or.inl rfl | exact Or.inr rfl)) (pss_one (ps_if (pt_cmpR op_ne (pe_cmpR (op_inP T.f___contains__ T.i___contains__ (d_contains T).fp (hr.mono (by decide)) hgd) (pv 4) (pv 1) (by rfl)) (pe_cmpR (op_inD (un65 hr)) (pv 4) (pv 2) (by rfl)) (nomark _)) (pss_one (ps_ret pe_bl)) pss_nil)))
      (pss_cons (ps_set (i := 5) sc_l_among_right.nd rfl (by first | exact Or.inl rfl | exact Or.inr rfl) (pe_lst (pa_cons pe_non (pa_cons pe_int (pa_cons pe_str (pa_cons (pe_callTy call_list_of (by rfl) T.n_list (by decide +kernel) (pa_cons (pe_ix ix_list (pv 2) pe_int (fun _ _ => rfl)) pa_nil)) (pa_cons (pv 2) (pa_cons (pe_slice sl_tup (pe_ix ix_list (pv 2) pe_int (fun _ _ => rfl)) po_none (po_some pe_int)) (pa_cons (pe_op op_catT (pe_ix ix_list (pv 2) pe_int (fun _ _ => rfl)) (pe_tup (pa_cons pe_int pa_nil))) (pa_cons (pe_tup (pa_cons pe_bl (pa_cons pe_bl (pa_cons (pe_ix ix_tup (pe_ix ix_list (pv 2) pe_int (fun _ _ => rfl)) pe_int (fun _ _ => rfl)) pa_nil)))) (pa_cons (pe_tup (pa_cons pe_int (pa_cons pe_int (pa_cons pe_non pa_nil)))) (pa_cons (pv 1) pa_nil))))))))))))
      (pss_cons (ps_set (i := 5) sc_l_among_right.nd rfl (by first | exact Or.inl rfl | exact Or.inr rfl) (pe_op op_cat (pv 5) (pe_lst (pa_cons (pe_tup (pa_cons (pe_ix ix_tup (pe_ix ix_list (pv 2) pe_int (fun _ _ => rfl)) pe_int (fun _ _ => rfl)) (pa_cons pe_int (pa_cons pe_int pa_nil)))) (pa_cons (pe_tup (pa_cons (pe_lst pa_nil) (pa_cons pe_int (pa_cons (pe_ix ix_tup (pe_ix ix_list (pv 2) pe_int (fun _ _ => rfl)) pe_int (fun _ _ => rfl)) pa_nil)))) (pa_cons (pe_tup (pa_cons pe_int (pa_cons pe_dnewK (pa_cons (pe_ix ix_tup (pe_ix ix_list (pv 2) pe_int (fun _ _ => rfl)) pe_int (fun _ _ => rfl)) pa_nil)))) pa_nil))))))
      (pss_one (ps_ret (pe_not (pe_callB (cr_any rfl) (by rfl) T.n_any (by decide +kernel) (pa_cons (pe_lc (own := [("_law_thing", 6)]) rfl sc_l_among_right.nd (pi_list (pv 5)) (blkOk_by (own := [("_law_thing", 6)]) (N := ["_law_pot_here", "_law_made", "_law_due", "_law_near", "_law_part", "_law_some", "_law_thing"]) (sc := defScope s_l_among_right) (by decide +kernel)) (fun _ _ _ _ _ => (pg_name (i := 6) sc_l_among_right.nd rfl (by first | exact Or.inl rfl | exact Or.inr rfl))) (fun _ _ _ _ _ => pts_nil) (fun _ _ _ _ _ => (pe_cmpR (op_inP T.f___contains__ T.i___contains__ (d_contains T).fp (hr.mono (by decide)) hgd) (pv 6) (pv 1) (by rfl)))) pa_nil)))))))))), ?_⟩
    have ln := el.len
    have l0 := du.d.ok.l0
    have l1 := du.d.ok.l1
    have nn : ∀ e ∈ es, 0 ≤ e.1 ∧ e.1 ≤ 3 ∧ 0 ≤ e.2.1 ∧ e.2.1 ≤ 3 ∧ Wd e.2.2 := fun e he => by
      have a := du.u.nn e he
      have b := du.d.le e he
      exact ⟨a.1, b.1, a.2.2.1, b.2, du.d.wd e he⟩
    have s0 : L2.Same H H := Same.refl H
    refine ⟨_, rfl, d, rfl, ⟨_, SqL.of hd⟩, fun D nD => ?_⟩
    refine lc_depI (walk_list (xs := xs)) nD (by omega) (fun _ sm => SqL.of (sm _ _ (s0 _ _ hd))) (fun i H v => ∃ g, EntT H v g ∧ EOk g) (fun i H H' v s ⟨e, he, h⟩ => ⟨e, he.same s, h⟩) (fun i H xs ys v hD ⟨e, he, h⟩ => ⟨e, he.mut hD, h⟩) (fun i x H6 H7 Kn Z hi sm _ y q => ?_) (fun H6 ys sm hD hl hr3 => ?_)
    · obtain ⟨rfl, hx⟩ := y
      obtain ⟨e, he, u, rfl, hu⟩ := el.at hx
      have hu' := sm _ _ (s0 _ _ hu)
      have en := nn e (List.mem_of_getElem? he)
      refine ⟨rfl, _, rfl, u, _, 0, _, rfl, rfl, SqT.of hu', rfl, _, rfl, p, 3, rfl, sm _ _ hp, by decide, by decide, fun dd H8 d0 d1 s8 => ?_⟩
      have hu8 := s8 _ _ hu'
      refine ⟨_, _, rfl, rfl, _, _, rfl, rfl, ?_⟩
      refine ⟨_, rfl, u, _, 1, _, rfl, rfl, SqT.of hu8, rfl, _, rfl, u, _, 2, _, rfl, rfl, SqT.of hu8, rfl, ?_⟩
      refine ⟨by show (3 : Nat) ≤ sizeLine; decide, fun p np => ?_⟩
      exact q _ _ (s8.trans (Same.new np)) ⟨(e.1 + dd - 1, e.2.1, e.2.2), ⟨p, rfl, upd_same⟩, Wd.eok (e := (e.1 + dd - 1, e.2.1, e.2.2)) en.2.2.2.2 (by show -20 ≤ e.1 + dd - 1; omega) (by show e.1 + dd - 1 ≤ 20; omega) (by show -20 ≤ e.2.1; omega) (by show e.2.1 ≤ 20; omega)⟩
    obtain ⟨gs, elg, okg⟩ := el_ex hr3
    have tA := sm
    refine ⟨_, rfl, _, rfl, d, rfl, ⟨_, SqL.of (sm _ _ hd)⟩, fun D2 nD2 => ?_⟩
    refine lc_depI (walk_list (xs := xs)) nD2 (by omega) (fun _ sm => SqL.of (sm _ _ (tA _ _ hd))) (fun i H v => ∃ g, EntT H v g ∧ EOk g) (fun i H H' v s ⟨e, he, h⟩ => ⟨e, he.same s, h⟩) (fun i H xs ys v hD ⟨e, he, h⟩ => ⟨e, he.mut hD, h⟩) (fun i x H6 H7 Kn Z hi sm _ y q => ?_) (fun HB ysB smB hDB hlB hrB => ?_)
    · obtain ⟨rfl, hx⟩ := y
      obtain ⟨e, he, u, rfl, hu⟩ := el.at hx
      have hu' := sm _ _ (tA _ _ hu)
      have en := nn e (List.mem_of_getElem? he)
      refine ⟨rfl, _, rfl, u, _, 0, _, rfl, rfl, SqT.of hu', rfl, _, rfl, u, _, 1, _, rfl, rfl, SqT.of hu', rfl, _, _, rfl, rfl, _, rfl, u, _, 2, _, rfl, rfl, SqT.of hu', rfl, ?_⟩
      refine ⟨by show (3 : Nat) ≤ sizeLine; decide, fun p np => ?_⟩
      exact q _ _ (Same.new np) ⟨(e.1, e.2.1 + 1, e.2.2), ⟨p, rfl, upd_same⟩, Wd.eok (e := (e.1, e.2.1 + 1, e.2.2)) en.2.2.2.2 (by show -20 ≤ e.1; omega) (by show e.1 ≤ 20; omega) (by show -20 ≤ e.2.1 + 1; omega) (by show e.2.1 + 1 ≤ 20; omega)⟩
    obtain ⟨gsB, elgB, okgB⟩ := el_ex hrB
    have tB := sm.trans smB
    refine ⟨D, D2, ys, ysB, rfl, rfl, smB _ _ hD, hDB, Nat.le_trans (m := 20) (by omega) (by decide), fun D3 nD3 => ?_⟩
    have s3 := Same.new (o := .lst (ys ++ ysB)) nD3
    have h3 : (upd HB D3 (.lst (ys ++ ysB))) D3 = some (.lst (ys ++ ysB)) := upd_same
    have el3 := ((elg.same smB).app elgB).same s3
    generalize upd HB D3 (.lst (ys ++ ysB)) = H3 at s3 h3 el3
    have t3 := tB.trans s3
    refine ⟨_, rfl, d, rfl, ⟨_, SqL.of (t3 _ _ hd)⟩, fun D4 nD4 => ?_⟩
    refine lc_depI (walk_list (xs := xs)) nD4 (by omega) (fun _ sm => SqL.of (sm _ _ (t3 _ _ hd))) (fun i H v => ∃ g, EntT H v g ∧ EOk g) (fun i H H' v s ⟨e, he, h⟩ => ⟨e, he.same s, h⟩) (fun i H xs ys v hD ⟨e, he, h⟩ => ⟨e, he.mut hD, h⟩) (fun i x H6 H7 Kn Z hi sm _ y q => ?_) (fun HC ysC smC hDC hlC hrC => ?_)
    · obtain ⟨rfl, hx⟩ := y
      obtain ⟨e, he, u, rfl, hu⟩ := el.at hx
      have hu' := sm _ _ (t3 _ _ hu)
      have en := nn e (List.mem_of_getElem? he)
      refine ⟨rfl, _, rfl, u, _, 1, _, rfl, rfl, SqT.of hu', rfl, _, rfl, u, _, 0, _, rfl, rfl, SqT.of hu', rfl, _, rfl, u, _, 2, _, rfl, rfl, SqT.of hu', rfl, ?_⟩
      refine ⟨by show (3 : Nat) ≤ sizeLine; decide, fun p np => ?_⟩
      exact q _ _ (Same.new np) ⟨(e.2.1, e.1, e.2.2), ⟨p, rfl, upd_same⟩, Wd.eok (e := (e.2.1, e.1, e.2.2)) en.2.2.2.2 (by show -20 ≤ e.2.1; omega) (by show e.2.1 ≤ 20; omega) (by show -20 ≤ e.1; omega) (by show e.1 ≤ 20; omega)⟩
    obtain ⟨gsC, elgC, okgC⟩ := el_ex hrC
    have tC := t3.trans smC
    refine ⟨D3, D4, _, ysC, rfl, rfl, smC _ _ h3, hDC, Nat.le_trans (m := 30) (by rw [List.length_append]; omega) (by decide), fun D5 nD5 => ?_⟩
    have s5 := Same.new (o := .lst ((ys ++ ysB) ++ ysC)) nD5
    have h5 : (upd HC D5 (.lst ((ys ++ ysB) ++ ysC))) D5 = some (.lst ((ys ++ ysB) ++ ysC)) := upd_same
    have el5 := ((el3.same smC).app elgC).same s5
    have ok5 : ∀ g ∈ (gs ++ gsB) ++ gsC, EOk g := fun g hg => by
      rcases List.mem_append.mp hg with hg | hg
      · rcases List.mem_append.mp hg with hg | hg
        · exact okg g hg
        · exact okgB g hg
      · exact okgC g hg
    have l5 : ((ys ++ ysB) ++ ysC).length ≤ 30 := by rw [List.length_append, List.length_append]; omega
    generalize (ys ++ ysB) ++ ysC = zs at s5 h5 el5 l5
    generalize (gs ++ gsB) ++ gsC = gz at el5 ok5
    generalize upd HC D5 (.lst zs) = H5 at s5 h5 el5
    have t5 := tC.trans s5
    refine ⟨_, rfl, _, rfl, d, D5, xs, zs, rfl, rfl, t5 _ _ hd, h5, Nat.le_trans (m := 40) (by omega) (by decide), fun D6 nD6 => ?_⟩
    have s6 := Same.new (o := .lst (xs ++ zs)) nD6
    have h6 : (upd H5 D6 (.lst (xs ++ zs))) D6 = some (.lst (xs ++ zs)) := upd_same
    have el6 := ((el.same t5).app el5).same s6
    have ok6 : ∀ g ∈ es ++ gz, EOk g := fun g hg => by
      rcases List.mem_append.mp hg with hg | hg
      · exact du.d.ok.ok g hg
      · exact ok5 g hg
    generalize upd H5 D6 (.lst (xs ++ zs)) = H6 at s6 h6 el6
    have t6 := t5.trans s6
    refine ⟨D6, rfl, ⟨_, SqL.of h6⟩, ?_⟩
    refine for_it (walk_list (xs := xs ++ zs)) (fun i σ H' => ∃ s4 s5 s6 : Option V, σ = [some (.ref p), some (.ref a), some (.ref d), some (.ref D5), s4, s5, s6] ∧ L2.Same H6 H')
      ⟨_, _, _, rfl, Same.refl _⟩ (fun i σ H' _ ⟨_, _, _, _, s⟩ => SqL.of (s _ _ h6)) (fun i x σ H7 H8 hi hP y => ?_) (fun σ H7 hP => ?_)
    · obtain ⟨s4, s5', s6', rfl, t7⟩ := hP
      obtain ⟨rfl, hx⟩ := y
      obtain ⟨g, hg, eg⟩ := el6.at hx
      have eg7 := eg.same t7
      have gok := ok6 g (List.mem_of_getElem? hg)
      have kd7 := kd.same (t6.trans t7)
      obtain ⟨dx, t0, r0, z0, ka, _⟩ := id kd7
      refine ⟨_, rfl, _, rfl, a, dx, _, rfl, ka, a, es, m1, m2, x, rfl, kd7, du.d.ok.ok, by omega, .inl ⟨g, eg7, gok, fun H9 s9 => ⟨_, rfl, ?_⟩⟩⟩
      have t9 := (t6.trans t7).trans s9
      refine ⟨_, rfl, _, rfl, eD g, es.map eD, (eg7.same s9).dp, .lst (SqL.of (t9 _ _ hd)) (el.same t9).dp, eD_sh gok.2.2.2.2, eDs_shL fun f hf => (du.d.ok.ok f hf).2.2.2.2, ?_⟩
      rw [any_eD]
      refine ⟨rfl, _, rfl, ?_⟩
      rw [decide_eq_true rfl]
      refine iteF ?_
      exact ⟨_, _, _, rfl, t7.trans s9⟩
    · obtain ⟨s4, s5', s6', rfl, t7⟩ := hP
      have c0 := t6.trans t7
      have q0 : 0 < xs.length := by omega
      obtain ⟨e0, he0, u0, hx0, hu0⟩ := el.at (List.getElem?_eq_getElem q0)
      have at0 : atI xs 0 = some (.ref u0) := by rw [← hx0]; exact (show atI _ ((0 : Nat) : Int) = _ from atI_nat (List.getElem?_eq_getElem q0))
      have wd0 := (nn e0 (List.mem_of_getElem? he0)).2.2.2.2
      have ln0 : e0.2.2.length ≤ 100000 := Nat.le_trans wd0.len (by decide)
      have iS : ∀ Hx, It K Hx (.str e0.2.2) := fun Hx => .str _ ln0
      clear el5 el6 ok5 ok6 elg elgB elgC okg okgB okgC hr3 hrB hrC
      refine ⟨_, rfl, d, xs, 0, .ref u0, rfl, rfl, SqL.of (c0 _ _ hd), at0, u0, _, rfl, .inr (SqT.of (c0 _ _ hu0)), fun l1 nl1 => ?_⟩
      have s01 := Same.new (o := .lst [V.int e0.1, V.int e0.2.1, V.str e0.2.2]) nl1
      have hl1 : (upd H7 l1 (.lst [V.int e0.1, V.int e0.2.1, V.str e0.2.2])) l1 = some (.lst [V.int e0.1, V.int e0.2.1, V.str e0.2.2]) := upd_same
      generalize upd H7 l1 (.lst [V.int e0.1, V.int e0.2.1, V.str e0.2.2]) = J1 at s01 hl1
      have c1 := c0.trans s01
      refine ⟨_, rfl, ?_⟩
      refine ⟨_, rfl, d, xs, 0, .ref u0, rfl, rfl, SqL.of (c1 _ _ hd), at0, 2, rfl, u0, _, rfl, SqT.of (c1 _ _ hu0), (fun z => absurd z.2 (show ¬ HT.sIx 3 3 (some 2) = 3 by decide)), fun l2 nl2 => ?_⟩
      have cu : cutV [V.int e0.1, V.int e0.2.1, V.str e0.2.2] none (some 2) = [V.int e0.1, V.int e0.2.1] := cut_to (i := 2) (show (2 : Nat) ≤ 3 by decide)
      rw [cu]
      have s02 := Same.new (o := .tup [V.int e0.1, V.int e0.2.1]) nl2
      have hl2 : (upd J1 l2 (.tup [V.int e0.1, V.int e0.2.1])) l2 = some (.tup [V.int e0.1, V.int e0.2.1]) := upd_same
      generalize upd J1 l2 (.tup [V.int e0.1, V.int e0.2.1]) = J2 at s02 hl2
      have c2 := c1.trans s02
      refine ⟨_, rfl, d, xs, 0, .ref u0, rfl, rfl, SqL.of (c2 _ _ hd), at0, by show (1 : Nat) ≤ sizeLine; decide, fun l3 nl3 => ?_⟩
      have s03 := Same.new (o := .tup [V.int 0]) nl3
      have hl3 : (upd J2 l3 (.tup [V.int 0])) l3 = some (.tup [V.int 0]) := upd_same
      generalize upd J2 l3 (.tup [V.int 0]) = J3 at s03 hl3
      have c3 := c2.trans s03
      refine ⟨u0, l3, _, _, rfl, rfl, SqT.of (c3 _ _ hu0), SqT.of hl3, by simp, by show (4 : Nat) ≤ sizeLine; decide, (fun z => by cases z), fun _ l4 nl4 => ?_⟩
      have s04 := Same.new (o := .tup ([V.int e0.1, V.int e0.2.1, V.str e0.2.2] ++ [V.int 0])) nl4
      have hl4 : (upd J3 l4 (.tup ([V.int e0.1, V.int e0.2.1, V.str e0.2.2] ++ [V.int 0]))) l4 = some (.tup ([V.int e0.1, V.int e0.2.1, V.str e0.2.2] ++ [V.int 0])) := upd_same
      generalize upd J3 l4 (.tup ([V.int e0.1, V.int e0.2.1, V.str e0.2.2] ++ [V.int 0])) = J4 at s04 hl4
      have c4 := c3.trans s04
      refine ⟨_, rfl, d, xs, 0, .ref u0, rfl, rfl, SqL.of (c4 _ _ hd), at0, u0, _, 2, _, rfl, rfl, SqT.of (c4 _ _ hu0), rfl, by show (3 : Nat) ≤ sizeLine; decide, fun l5 nl5 => ?_⟩
      have s05 := Same.new (o := .tup [V.bl true, V.bl false, V.str e0.2.2]) nl5
      have hl5 : (upd J4 l5 (.tup [V.bl true, V.bl false, V.str e0.2.2])) l5 = some (.tup [V.bl true, V.bl false, V.str e0.2.2]) := upd_same
      generalize upd J4 l5 (.tup [V.bl true, V.bl false, V.str e0.2.2]) = J5 at s05 hl5
      have c5 := c4.trans s05
      refine ⟨by show (3 : Nat) ≤ sizeLine; decide, fun l6 nl6 => ?_⟩
      have s06 := Same.new (o := .tup [V.int 0, V.int 0, V.non]) nl6
      have hl6 : (upd J5 l6 (.tup [V.int 0, V.int 0, V.non])) l6 = some (.tup [V.int 0, V.int 0, V.non]) := upd_same
      generalize upd J5 l6 (.tup [V.int 0, V.int 0, V.non]) = J6 at s06 hl6
      have c6 := c5.trans s06
      refine ⟨_, rfl, by show (10 : Nat) ≤ sizeLine; decide, fun S nS => ?_⟩
      have s07 := Same.new (o := .lst [V.non, V.int 0, V.str "", V.ref l1, V.ref d, V.ref l2, V.ref l4, V.ref l5, V.ref l6, V.ref a]) nS
      have hS : (upd J6 S (.lst [V.non, V.int 0, V.str "", V.ref l1, V.ref d, V.ref l2, V.ref l4, V.ref l5, V.ref l6, V.ref a])) S = some (.lst [V.non, V.int 0, V.str "", V.ref l1, V.ref d, V.ref l2, V.ref l4, V.ref l5, V.ref l6, V.ref a]) := upd_same
      generalize upd J6 S (.lst [V.non, V.int 0, V.str "", V.ref l1, V.ref d, V.ref l2, V.ref l4, V.ref l5, V.ref l6, V.ref a]) = J7 at s07 hS
      have c7 := c6.trans s07
      refine ⟨_, rfl, _, rfl, d, xs, 0, .ref u0, rfl, rfl, SqL.of (c7 _ _ hd), at0, u0, _, 2, _, rfl, rfl, SqT.of (c7 _ _ hu0), rfl, by show (3 : Nat) ≤ sizeLine; decide, fun l7 nl7 => ?_⟩
      have s08 := Same.new (o := .tup [V.str e0.2.2, V.int 0, V.int 0]) nl7
      have hl7 : (upd J7 l7 (.tup [V.str e0.2.2, V.int 0, V.int 0])) l7 = some (.tup [V.str e0.2.2, V.int 0, V.int 0]) := upd_same
      generalize upd J7 l7 (.tup [V.str e0.2.2, V.int 0, V.int 0]) = J8 at s08 hl7
      have c8 := c7.trans s08
      refine ⟨by show (0 : Nat) ≤ sizeLine; decide, fun l8 nl8 => ?_⟩
      have s09 := Same.new (o := .lst []) nl8
      have hl8 : (upd J8 l8 (.lst [])) l8 = some (.lst []) := upd_same
      generalize upd J8 l8 (.lst []) = J9 at s09 hl8
      have c9 := c8.trans s09
      refine ⟨_, rfl, d, xs, 0, .ref u0, rfl, rfl, SqL.of (c9 _ _ hd), at0, u0, _, 2, _, rfl, rfl, SqT.of (c9 _ _ hu0), rfl, by show (3 : Nat) ≤ sizeLine; decide, fun l9 nl9 => ?_⟩
      have s10 := Same.new (o := .tup [V.ref l8, V.int 0, V.str e0.2.2]) nl9
      have hl9 : (upd J9 l9 (.tup [V.ref l8, V.int 0, V.str e0.2.2])) l9 = some (.tup [V.ref l8, V.int 0, V.str e0.2.2]) := upd_same
      generalize upd J9 l9 (.tup [V.ref l8, V.int 0, V.str e0.2.2]) = J10 at s10 hl9
      have c10 := c9.trans s10
      intro l10 nl10
      have s11 := Same.new (o := .dK []) nl10
      have hl10 : (upd J10 l10 (.dK [])) l10 = some (.dK []) := upd_same
      generalize upd J10 l10 (.dK []) = J11 at s11 hl10
      have c11 := c10.trans s11
      refine ⟨_, rfl, d, xs, 0, .ref u0, rfl, rfl, SqL.of (c11 _ _ hd), at0, u0, _, 2, _, rfl, rfl, SqT.of (c11 _ _ hu0), rfl, by show (3 : Nat) ≤ sizeLine; decide, fun l11 nl11 => ?_⟩
      have s12 := Same.new (o := .tup [V.int 0, V.ref l10, V.str e0.2.2]) nl11
      have hl11 : (upd J11 l11 (.tup [V.int 0, V.ref l10, V.str e0.2.2])) l11 = some (.tup [V.int 0, V.ref l10, V.str e0.2.2]) := upd_same
      generalize upd J11 l11 (.tup [V.int 0, V.ref l10, V.str e0.2.2]) = J12 at s12 hl11
      have c12 := c11.trans s12
      refine ⟨by show (3 : Nat) ≤ sizeLine; decide, fun S2 nS2 => ?_⟩
      have s13 := Same.new (o := .lst [V.ref l7, V.ref l9, V.ref l11]) nS2
      have hS2 : (upd J12 S2 (.lst [V.ref l7, V.ref l9, V.ref l11])) S2 = some (.lst [V.ref l7, V.ref l9, V.ref l11]) := upd_same
      generalize upd J12 S2 (.lst [V.ref l7, V.ref l9, V.ref l11]) = J13 at s13 hS2
      have c13 := c12.trans s13
      have hS13 := (s08.trans (s09.trans (s10.trans (s11.trans (s12.trans s13))))) _ _ hS
      refine ⟨S, S2, _, _, rfl, rfl, hS13, hS2, by show (13 : Nat) ≤ sizeLine; decide, fun S3 nS3 => ?_⟩
      have s14 := Same.new (o := .lst ([V.non, V.int 0, V.str "", V.ref l1, V.ref d, V.ref l2, V.ref l4, V.ref l5, V.ref l6, V.ref a] ++ [V.ref l7, V.ref l9, V.ref l11])) nS3
      have hS3 : (upd J13 S3 (.lst ([V.non, V.int 0, V.str "", V.ref l1, V.ref d, V.ref l2, V.ref l4, V.ref l5, V.ref l6, V.ref a] ++ [V.ref l7, V.ref l9, V.ref l11]))) S3 = some (.lst ([V.non, V.int 0, V.str "", V.ref l1, V.ref d, V.ref l2, V.ref l4, V.ref l5, V.ref l6, V.ref a] ++ [V.ref l7, V.ref l9, V.ref l11])) := upd_same
      generalize upd J13 S3 (.lst ([V.non, V.int 0, V.str "", V.ref l1, V.ref d, V.ref l2, V.ref l4, V.ref l5, V.ref l6, V.ref a] ++ [V.ref l7, V.ref l9, V.ref l11])) = J14 at s14 hS3
      have c14 := c13.trans s14
      have f14 : L2.Same J14 J14 := Same.refl _
      have f13 := s14.trans f14
      have f12 := s13.trans f13
      have f11 := s12.trans f12
      have f10 := s11.trans f11
      have f09 := s10.trans f10
      have f08 := s09.trans f09
      have f07 := s08.trans f08
      have f06 := s07.trans f07
      have f05 := s06.trans f06
      have f04 := s05.trans f05
      have f03 := s04.trans f04
      have f02 := s03.trans f03
      have f01 := s02.trans f02
      have kdN := kd.same c14
      obtain ⟨dxN, tN, rN, zN, kaN, _⟩ := id kdN
      have all : ∀ x ∈ ([V.non, V.int 0, V.str "", V.ref l1, V.ref d, V.ref l2, V.ref l4, V.ref l5, V.ref l6, V.ref a] ++ [V.ref l7, V.ref l9, V.ref l11]), NoE K J14 x := by
        intro x hx
        simp only [List.cons_append, List.nil_append, List.mem_cons, List.not_mem_nil, or_false] at hx
        rcases hx with rfl | rfl | rfl | rfl | rfl | rfl | rfl | rfl | rfl | rfl | rfl | rfl | rfl
        · exact ⟨.non, .inl fun _ z => by cases z⟩
        · exact ⟨.int _, .inl fun _ z => by cases z⟩
        · exact ⟨.str _ (by decide +kernel), .inl fun _ z => by cases z⟩
        · exact noE_lst (f01 _ _ hl1)
        · exact noE_lst (c14 _ _ hd)
        · exact noE_tup (f02 _ _ hl2) (show (2 : Nat) ≠ 3 by decide)
        · exact noE_tup (f04 _ _ hl4) (show (4 : Nat) ≠ 3 by decide)
        · exact noE_3 (f05 _ _ hl5) (.bl _) (.bl _) (iS _) rfl
        · exact noE_3 (f06 _ _ hl6) (.int _) (.int _) .non (by decide)
        · exact noE_own kaN
        · exact noE_3 (f08 _ _ hl7) (iS _) (.int _) (.int _) rfl
        · exact noE_3 (f10 _ _ hl9) (.lst (f09 _ _ hl8)) (.int _) (iS _) rfl
        · exact noE_3 (f12 _ _ hl11) (.int _) (.dct (f11 _ _ hl10)) (iS _) rfl
      have lw : ([V.non, V.int 0, V.str "", V.ref l1, V.ref d, V.ref l2, V.ref l4, V.ref l5, V.ref l6, V.ref a] ++ [V.ref l7, V.ref l9, V.ref l11]).length = 13 := rfl
      generalize [V.non, V.int 0, V.str "", V.ref l1, V.ref d, V.ref l2, V.ref l4, V.ref l5, V.ref l6, V.ref a] ++ [V.ref l7, V.ref l9, V.ref l11] = ws at hS3 all lw
      refine ⟨_, rfl, S3, rfl, ⟨_, SqL.of hS3⟩, fun D nD => ?_⟩
      refine lc_pure (walk_list (xs := ws)) nD (by omega) (fun _ sm => SqL.of (sm _ _ hS3)) (fun i y => y = .bl false) (fun i x H8 H9 Kn Z hi sm y q => ?_) (fun H8 ys sm hD hl hrr => ?_)
      · obtain ⟨rfl, hx⟩ := y
        obtain ⟨it, alt⟩ := ((all x (List.mem_of_getElem? hx)).same sm).sp
        exact ⟨rfl, _, rfl, _, rfl, a, dxN, _, rfl, sm _ _ kaN, a, es, m1, m2, x, rfl, kdN.same sm, du.d.ok.ok, by omega, .inr ⟨it, alt, fun H' s => ⟨_, rfl, q _ _ s rfl⟩⟩⟩
      · have e : ys = (List.replicate ys.length false).map V.bl := by
          rw [List.map_replicate]
          refine List.eq_replicate_iff.mpr ⟨rfl, fun b hb => ?_⟩
          obtain ⟨i, hi⟩ := List.mem_iff_getElem?.mp hb
          exact hrr i b hi
        refine ⟨D, List.replicate ys.length false, rfl, by rw [← e]; exact SqL.of hD, _, rfl, ?_⟩
        have z : (List.replicate ys.length false).any id = false := by
          rw [List.any_eq_false]
          intro x hx
          rw [(List.mem_replicate.mp hx).2]
          decide
        rw [z]
        exact k _ (c14.trans sm)
end
end K11

set_option Elab.async false
set_option linter.all false
set_option maxRecDepth 100000
set_option maxHeartbeats 4000000
namespace K11
open PySem L2 Lay Own SrtO
theorem sh_inj {u v : Int} {e f : Ent} (h : sh u v e = sh u v f) : e = f := by
  obtain ⟨a, b, c⟩ := e
  obtain ⟨a', b', c'⟩ := f
  simp only [sh, Prod.mk.injEq] at h
  obtain ⟨h1, h2, h3⟩ := h
  rw [show a = a' by omega, show b = b' by omega, h3]
theorem mv_sh (u v : Int) (es : List Ent) : (es.map (sh u v)).map (mv u v) = es := by
  rw [List.map_map]
  refine (List.map_congr_left fun e _ => ?_).trans (List.map_id es)
  obtain ⟨a, b, c⟩ := e
  simp only [Function.comp, sh, mv, id]
  rw [show a + u - u = a by omega, show b + v - v = b by omega]
/-- what is passed -/
theorem pas_ok {es gs : List Ent} {m1 m2 u v : Int} (d : DueM es m1 m2) (p : gs.Perm (es.map (sh u v))) (u0 : -20 ≤ u) (u1 : u ≤ 17) (v0 : -20 ≤ v) (v1 : v ≤ 17) : EsOk gs := by
  have l := p.length_eq
  rw [List.length_map] at l
  refine ⟨by rw [l]; exact d.d.ok.l0, by rw [l]; exact d.d.ok.l1, p.nodup_iff.mpr (nodup_map (fun _ _ => sh_inj) d.d.ok.nd), fun g hg => ?_⟩
  obtain ⟨e, he, rfl⟩ := List.mem_map.mp (p.mem_iff.mp hg)
  have a := d.u.nn e he
  have b := d.d.le e he
  exact Wd.eok (e := sh u v e) (d.d.wd e he) (by show -20 ≤ e.1 + u; omega) (by show e.1 + u ≤ 20; omega) (by show -20 ≤ e.2.1 + v; omega) (by show e.2.1 + v ≤ 20; omega)
theorem pas_kn {es gs fs : List Ent} {m1 m2 n1 n2 u v : Int} (d : DueM es m1 m2) (p : gs.Perm (es.map (sh u v))) (k : Kn gs fs n1 n2) : fs = es ∧ n1 = m1 ∧ n2 = m2 := by
  obtain ⟨lo, bo, hl, hb, pm, sd⟩ := k.n
  have x : IsMin u ((es.map (sh u v)).map (·.1)) := by
    obtain ⟨e, he, q⟩ := List.mem_map.mp d.d.x0.1
    have q : e.1 = 0 := q
    refine ⟨List.mem_map.mpr ⟨sh u v e, List.mem_map.mpr ⟨e, he, rfl⟩, by show e.1 + u = u; omega⟩, fun y hy => ?_⟩
    obtain ⟨g, hg, rfl⟩ := List.mem_map.mp hy
    obtain ⟨f, hf, rfl⟩ := List.mem_map.mp hg
    have := (d.u.nn f hf).1
    show u ≤ f.1 + u
    omega
  have y : IsMin v ((es.map (sh u v)).map (·.2.1)) := by
    obtain ⟨e, he, q⟩ := List.mem_map.mp d.d.y0.1
    have q : e.2.1 = 0 := q
    refine ⟨List.mem_map.mpr ⟨sh u v e, List.mem_map.mpr ⟨e, he, rfl⟩, by show e.2.1 + v = v; omega⟩, fun y hy => ?_⟩
    obtain ⟨g, hg, rfl⟩ := List.mem_map.mp hy
    obtain ⟨f, hf, rfl⟩ := List.mem_map.mp hg
    have := (d.u.nn f hf).2.2.1
    show v ≤ f.2.1 + v
    omega
  obtain rfl := isMin_eq (hl.perm p) x
  obtain rfl := isMin_eq (hb.perm p) y
  have q : fs.Perm es := by
    refine pm.trans ((p.map _).trans ?_)
    rw [mv_sh]
  have e : fs = es := due_eq sd d.d.sd q
  subst e
  exact ⟨rfl, isMax_eq k.x d.x, isMax_eq k.y d.y⟩
theorem pas_le {es gs : List Ent} {m1 m2 u v : Int} (d : DueM es m1 m2) (p : gs.Perm (es.map (sh u v))) : ∀ fs n1 n2, Kn gs fs n1 n2 → n1 ≤ 3 ∧ n2 ≤ 3 := fun fs n1 n2 k => by
  obtain ⟨_, rfl, rfl⟩ := pas_kn d p k
  have := d.u.m3
  omega
theorem max_ex : ∀ {ns : List Int}, ns ≠ [] → ∃ m, IsMax m ns
  | [], h => (h rfl).elim
  | [a], _ => ⟨a, List.mem_singleton.mpr rfl, fun y hy => by rw [List.mem_singleton.mp hy]; omega⟩
  | a :: b :: l, _ => by
    obtain ⟨m, hm, hx⟩ := max_ex (ns := b :: l) (by simp)
    by_cases c : a ≤ m
    · exact ⟨m, List.mem_cons_of_mem _ hm, fun y hy => by
        rcases List.mem_cons.mp hy with rfl | hy
        · exact c
        · exact hx y hy⟩
    · exact ⟨a, List.mem_cons_self .., fun y hy => by
        rcases List.mem_cons.mp hy with rfl | hy
        · omega
        · have := hx y hy; omega⟩
theorem due_m {es : List Ent} (d : Due es) : ∃ m1 m2, DueM es m1 m2 := by
  have n : es ≠ [] := fun z => by
    have := d.ok.l0
    rw [z] at this
    simp at this
  obtain ⟨m1, h1⟩ := max_ex (ns := es.map (·.1)) (by simpa using n)
  obtain ⟨m2, h2⟩ := max_ex (ns := es.map (·.2.1)) (by simpa using n)
  exact ⟨m1, m2, d, h1, h2⟩
/-- what is not a list stays -/
def Keep (H H' : Hp) : Prop := ∀ b o, H b = some o → (∀ xs, o ≠ .lst xs) → H' b = some o
theorem Keep.of {H H' : Hp} (s : L2.Same H H') : Keep H H' := fun b o h _ => s b o h
theorem Keep.trans {H H1 H2 : Hp} (a : Keep H H1) (b : Keep H1 H2) : Keep H H2 := fun x o h n => b x o (a x o h n) n
theorem Keep.mut {H H' : Hp} {l : Addr} {xs ys : List V} (k : Keep H H') (h : H' l = some (.lst xs)) : Keep H (upd H' l (.lst ys)) := fun b o hb n => by
  have q := k b o hb n
  rw [upd_ne]
  · exact q
  · intro z
    subst z
    rw [h] at q
    cases q
    exact n _ rfl
theorem EntT_keep {H H' : Hp} {x : V} {e : Ent} (h : EntT H x e) (k : Keep H H') : EntT H' x e := by
  obtain ⟨t, rfl, h⟩ := h
  exact ⟨t, rfl, k _ _ h fun _ z => by cases z⟩
theorem EL_keep {H H' : Hp} {xs : List V} {es : List Ent} (h : EL H xs es) (k : Keep H H') : EL H' xs es := by
  induction h with
  | nil => exact .nil
  | cons h _ ih => exact .cons (EntT_keep h k) ih
theorem KindAt.keep {K : PySem.W.Frag} {H H' : Hp} {a : Addr} {fs : List Ent} {m1 m2 : Int} (h : KindAt K H a fs m1 m2) (k : Keep H H') : KindAt K H' a fs m1 m2 := by
  obtain ⟨dx, t, r, zs, h1, h2, h3, h4, h5⟩ := h
  exact ⟨dx, t, r, zs, k _ _ h1 (fun _ z => by cases z), k _ _ h2 (fun _ z => by cases z), k _ _ h3 (fun _ z => by cases z), EL_keep h4 k, k _ _ h5 (fun _ z => by cases z)⟩
end K11

set_option Elab.async false
set_option linter.all false
set_option maxRecDepth 100000
set_option maxHeartbeats 4000000
namespace K11
open PySem L2 Lay Own SrtO
local macro_rules | `(tactic| walk_at "ne") => `(tactic| first | assumption | (apply Ne.symm; assumption) | exact ne_of_none (by walk_at "look") (by assumption) | exact (ne_of_none (by walk_at "look") (by assumption)).symm)
local macro_rules | `(tactic| walk_at "look") => `(tactic| first | assumption | exact upd_same | (refine Eq.trans (upd_ne ?_) ?_; walk_at "ne"; walk_at "look"))
local macro_rules | `(tactic| walk_at "rds") => `(tactic| first | rfl | assumption | walk_at "look" | exact SqL.of (by walk_at "look") | exact SqT.of (by walk_at "look") | exact Or.inl (SqL.of (by walk_at "look")) | exact Or.inl (by assumption) | decide | omega | exact Nat.le_of_ble_eq_true rfl | exact Or.inr ⟨by decide, by decide⟩ | exact Or.inl ⟨by omega, by omega⟩ | exact ⟨by decide, by decide⟩)
local macro_rules | `(tactic| walk_at "rd1") => `(tactic| first | (apply Exists.intro) | (refine And.intro ?_ ?_; walk_at "rds") | (refine Or.inl ?_; apply Exists.intro; refine And.intro ?_ ?_; rfl))
local macro_rules | `(tactic| walk_at "rd") => `(tactic| repeat walk_at "rd1")
section
variable {P : Program} {w : World} {K : PySem.W.Frag} {mg : Str → Option Value} {base : Heap}
/-! right -/
theorem op_eqPK {X : Cx} {k : Nat} {g C : Addr} {sp : Sp} {F0 : PySem.W.Frag} (h : X.K = F0) (hs : PySem.W.findIn F0 (.ref C) "__eq__" = some (some (.ref g))) (hf : PySem.W.isFn F0 (.ref g) = true) (F : FnP X.prog X.w X.K X.mg X.base k g sp) (hr : Room k X.A) (hg : X.A.guards = some []) : OpR X (compareOp .Eq) (rEqP F0 C sp false) := by
  subst h
  exact op_eqP hs hf F hr hg
theorem eqq (T : Txt K mg) {H : Hp} {x a : Addr} {es gs : List Ent} {a1 a2 b1 b2 : Int} {Q : VK} (kx : KindAt K H x es a1 a2) (ka : KindAt K H a gs b1 b2) (ok : ∀ e ∈ es, EOk e) (ok2 : ∀ e ∈ gs, EOk e) (k : Q (.bl (decide (es = gs))) H) : rEqP K (kc K) (spEqK K) false (.ref x) (.ref a) H Q := by
  obtain ⟨dx, t, r, zs, h1, _⟩ := id kx
  obtain ⟨dx2, t2, r2, zs2, h2, _⟩ := id ka
  exact ⟨x, dx, _, .ref (kc K), rfl, h1, own_ty T h2, nf_self, x, es, a1, a2, .ref a, rfl, kx, ok, .inl ⟨a, gs, b1, b2, rfl, ka, ok2, _, rfl, k⟩⟩
theorem sh4 (a b c d : Bool) : SeqAt.shaped (.list [.bool a, .bool b, .bool c, .bool d]) = true := by
  cases a <;> cases b <;> cases c <;> cases d <;> decide +kernel
theorem eq4 (fC fO : List Ent) : (!PyData.eqv (.list [.bool (decide (fC = fC)), .bool (decide (fC = fC)), .bool (decide (fC = fO)), .bool (decide (fO = fC))]) (.list [.bool true, .bool true, .bool (decide (fC = fO)), .bool (decide (fC = fO))])) = false := by
  have e : decide (fO = fC) = decide (fC = fO) := by
    by_cases c : fC = fO
    · subst c; rfl
    · rw [decide_eq_false c, decide_eq_false (fun z => c z.symm)]
  rw [e, decide_eq_true (rfl : fC = fC)]
  cases decide (fC = fO) <;> decide +kernel
theorem dp4 {H : Hp} {l : Addr} {a b c d : Bool} (h : H l = some (.lst [.bl a, .bl b, .bl c, .bl d])) : Dp K H (.ref l) (.list [.bool a, .bool b, .bool c, .bool d]) := .lst (SqL.of h) (.cons (.bl _) (.cons (.bl _) (.cons (.bl _) (.cons (.bl _) .nil))))
theorem kTxt_len2 {es : List Ent} (ok : ∀ e ∈ es, EOk e) (wd : ∀ e ∈ es, Wd e.2.2) (l : es.length ≤ 6) : (kTxt es).length ≤ 1000 := by
  have q := sum_le (B := 110) (l := es.map entTxt) fun t ht => by
    obtain ⟨e, he, rfl⟩ := List.mem_map.mp ht
    obtain ⟨⟨b1, b2⟩, ⟨b3, b4⟩, nm, nl, no⟩ := ok e he
    have h := PySem.tupleText_len_le [((toString e.1 : String) : Str), ((toString e.2.1 : String) : Str), reprText e.2.2]
    have r := PySem.StrLaws.reprText_len e.2.2 (name_small nm)
    have w := (wd e he).len
    have i1 := int_len (i := e.1) (by omega) (by omega)
    have i2 := int_len (i := e.2.1) (by omega) (by omega)
    have h' : (entTxt e).length ≤ ([(Str.length ((toString e.1 : String) : Str)), (Str.length ((toString e.2.1 : String) : Str)), (reprText e.2.2).length]).sum + 2 * 3 + 3 := h
    simp only [List.sum_cons, List.sum_nil] at h'
    omega
  have h := PySem.tupleText_len_le (es.map entTxt)
  rw [List.length_map] at h q
  unfold kTxt
  rw [strLen_append]
  have e : (Str.ofString "Kind").length = 4 := by decide +kernel
  omega
/-- a thing that is no kind -/
def NoK (K : PySem.W.Frag) (H : Hp) (x : V) : Prop := It K H x ∧ ((∀ b, x ≠ .ref b) ∨ ∃ b o, x = .ref b ∧ H b = some o ∧ ∀ d fl, o ≠ .ins (kc K) d fl)
theorem NoK.same {H H' : Hp} {x : V} (h : NoK K H x) (s : L2.Same H H') : NoK K H' x := by
  obtain ⟨it, h⟩ := h
  refine ⟨it.same s, ?_⟩
  rcases h with h | ⟨b, o, e, hb, n⟩
  · exact .inl h
  · exact .inr ⟨b, o, e, s _ _ hb, n⟩
theorem NoK.no {H : Hp} {x : V} (h : NoK K H x) : ∀ b d fl, x = .ref b → H b ≠ some (.ins (kc K) d fl) := fun b d fl e hb => by
  rcases h.2 with h | ⟨b', o, e', hb', n⟩
  · exact h b e
  · rw [e] at e'
    cases e'
    rw [hb] at hb'
    cases hb'
    exact n d fl rfl
theorem dp2 {H : Hp} {l : Addr} {a b : Int} (h : H l = some (.lst [.int a, .int b])) : Dp K H (.ref l) (.list [.int a, .int b]) := .lst (SqL.of h) (.cons (.int _) (.cons (.int _) .nil))
def spRig (K : PySem.W.Frag) : Sp := fun vs H Q _ => ∃ p, vs = [.ref p] ∧ H p = some (PotO p) ∧ ∀ H', L2.Same H H' → Q (.bl true) H'
theorem d_right (T : Txt K mg) : Df P w K mg base 12 "_law_right" ["_law_pot_here"] (spRig K) := by
  obtain ⟨mc, cr, ⟨ps, sta⟩, ⟨u2, c2⟩, ⟨u3, c3⟩⟩ := T.cr
  have D_l_draw := d_draw (P := P) (w := w) (base := base) T
  have D_l_names := d_lnames (P := P) (w := w) (base := base) T
  have D_l_entries := d_lentries (P := P) (w := w) (base := base) T
  have D_l_passed := d_passed (P := P) (w := w) (base := base) T
  have D_l_kind := d_kind (P := P) (w := w) (base := base) T
  have D_l_told_right := d_told_right (P := P) (w := w) (base := base) T
  have D_l_among_right := d_among_right (P := P) (w := w) (base := base) T
  have D_l_turned_right := d_turned_right (P := P) (w := w) (base := base) T
  obtain ⟨fdO, FO, _, kwO⟩ := d_of (P := P) (w := w) (base := base) T
  refine T.S_l_right.by sc_l_right (fun vs H Q E h => ?_) (fun f cdv A outer s H vs Q E hr hgd h => ?_)
  · obtain ⟨p, rfl, _⟩ := h; rfl
  · obtain ⟨p, rfl, hp, k⟩ := h
    refine ⟨_, (pss_cons (ps_set (i := 1) sc_l_right.nd rfl (by first | exact Or.inl rfl | exact Or.inr rfl) (pe_own D_l_names (hr.mono (by first | decide | omega)) hgd (pa_cons (pv 0) (pa_cons (pe_op op_add pe_int (pe_own D_l_draw (hr.mono (by first | decide | omega)) hgd (pa_cons (pv 0) (pa_cons pe_int pa_nil)))) pa_nil))))
      (pss_cons (ps_par (i := 2) (j := 3) rfl sc_l_right.nd rfl rfl (by decide) rfl rfl (pa_cons (pe_own D_l_entries (hr.mono (by first | decide | omega)) hgd (pa_cons (pv 0) (pa_cons (pv 1) pa_nil))) (pa_cons (pe_own D_l_entries (hr.mono (by first | decide | omega)) hgd (pa_cons (pv 0) (pa_cons (pv 1) pa_nil))) pa_nil)) (by first | rfl | with_unfolding_all rfl))
      (pss_cons (ps_set (i := 4) sc_l_right.nd rfl (by first | exact Or.inl rfl | exact Or.inr rfl) (pe_own D_l_passed (hr.mono (by first | decide | omega)) hgd (pa_cons (pv 0) (pa_cons (pv 2) pa_nil))))
      (pss_cons (ps_asg (pe_tup (pa_cons (pe_own D_l_kind (hr.mono (by first | decide | omega)) hgd (pa_cons (pv 4) pa_nil)) (pa_cons (pe_staP (pe_glob (v := .ref (He.ga K "Kind")) (by rfl) T.g_Kind rfl) cr sta (d_of T).fp (hr.mono (by decide)) hgd (pa_cons (pv 4) pa_nil)) pa_nil))) (pg_tup rfl (pgs_cons (pg_name (i := 5) sc_l_right.nd rfl (by first | exact Or.inl rfl | exact Or.inr rfl)) (pgs_cons (pg_name (i := 6) sc_l_right.nd rfl (by first | exact Or.inl rfl | exact Or.inr rfl)) pgs_nil))))
      (pss_cons (ps_par (i := 7) (j := 8) rfl sc_l_right.nd rfl rfl (by decide) rfl rfl (pa_cons (pe_staK (pe_glob (v := .ref (He.ga K "Kind")) (by rfl) T.g_Kind rfl) cr sta FO kwO (hr.mono (by first | decide | omega)) hgd (pk_cons (pe_callTy call_tuple_of (by rfl) T.n_tuple (by decide +kernel) (pa_cons (pe_own D_l_passed (hr.mono (by first | decide | omega)) hgd (pa_cons (pv 0) (pa_cons (pv 2) pa_nil))) pa_nil)) pk_nil)) (pa_cons (pe_own D_l_kind (hr.mono (by first | decide | omega)) hgd (pa_cons (pe_own D_l_passed (hr.mono (by first | decide | omega)) hgd (pa_cons (pv 0) (pa_cons (pv 3) pa_nil))) pa_nil)) pa_nil)) (by first | rfl | with_unfolding_all rfl))
      (pss_cons (ps_set (i := 9) sc_l_right.nd rfl (by first | exact Or.inl rfl | exact Or.inr rfl) (pe_lst (pa_cons (pe_methP0 (pv 5) T.cls T.m_entries (d_entries T).fp (hr.mono (by first | decide | omega)) hgd) (pa_cons (pe_methP0 (pv 5) T.cls T.m_names (d_names T).fp (hr.mono (by first | decide | omega)) hgd) pa_nil))))
      (pss_cons (ps_expr (pe_bm PySem.F.plainAttrs_list PySem.F.slot_list_append PySem.F.type_list_append mt_append (pe_ix ix_list (pv 9) pe_int (fun _ _ => rfl)) (pa_cons (pe_tup (pa_cons pe_int (pa_cons pe_int (pa_cons pe_str pa_nil)))) pa_nil)))
      (pss_cons (ps_expr (pe_bm0 PySem.F.plainAttrs_list PySem.F.slot_list_clear PySem.F.type_list_clear mt_clear (pe_ix ix_list (pv 9) pe_int (fun _ _ => rfl))))
      (pss_cons (ps_expr (pe_bm0 PySem.F.plainAttrs_list PySem.F.slot_list_clear PySem.F.type_list_clear mt_clear (pv 4)))
      (pss_cons (ps_for PassesOwn.never rfl (pi_list (pe_lst (pa_cons (pv 5) (pa_cons (pv 6) (pa_cons (pv 7) pa_nil))))) (pg_name (i := 10) sc_l_right.nd rfl (by first | exact Or.inl rfl | exact Or.inr rfl)) (pss_one (ps_if (PW.pt (pw_or (pt_not (pt_val (pe_own D_l_told_right (hr.mono (by first | decide | omega)) hgd (pa_cons (pv 10) (pa_cons (pv 2) pa_nil))))) (pw_or (pt_not (pt_val (pe_own D_l_told_right (hr.mono (by first | decide | omega)) hgd (pa_cons (pv 10) (pa_cons (pv 2) pa_nil))))) (pw_or1 (pt_not (pt_val (pe_own D_l_among_right (hr.mono (by first | decide | omega)) hgd (pa_cons (pv 0) (pa_cons (pv 10) (pa_cons (pv 2) pa_nil)))))))))) (pss_one (ps_ret pe_bl)) pss_nil)))
      (pss_cons (ps_if (PW.pt (pw_or (pt_not (pt_val (pe_own D_l_told_right (hr.mono (by first | decide | omega)) hgd (pa_cons (pv 8) (pa_cons (pv 3) pa_nil))))) (pw_or1 (pt_not (pt_val (pe_own D_l_turned_right (hr.mono (by first | decide | omega)) hgd (pa_cons (pv 5) (pa_cons (pv 2) pa_nil)))))))) (pss_one (ps_ret pe_bl)) pss_nil)
      (pss_cons (ps_if (pt_cmpR (op_neD (un64 hr)) (pe_lst (pa_cons (pe_cmpR (op_eqP T.f___eq__ T.i___eq__ (d_eq T).fp (hr.mono (by decide)) hgd) (pv 5) (pv 6) (nomark _)) (pa_cons (pe_cmpR (op_eqP T.f___eq__ T.i___eq__ (d_eq T).fp (hr.mono (by decide)) hgd) (pv 6) (pv 7) (nomark _)) (pa_cons (pe_cmpR (op_eqP T.f___eq__ T.i___eq__ (d_eq T).fp (hr.mono (by decide)) hgd) (pv 5) (pv 8) (nomark _)) (pa_cons (pe_cmpR (op_eqP T.f___eq__ T.i___eq__ (d_eq T).fp (hr.mono (by decide)) hgd) (pv 8) (pv 5) (nomark _)) pa_nil))))) (pe_lst (pa_cons pe_bl (pa_cons pe_bl (pa_cons (pe_cmpR (op_eqD (un64 hr)) (pv 2) (pv 3) (nomark _)) (pa_cons (pe_cmpR (op_eqD (un64 hr)) (pv 2) (pv 3) (nomark _)) pa_nil))))) (nomark _)) (pss_one (ps_ret pe_bl)) pss_nil)
      (pss_cons (ps_if (PW.pt (pw_or (pt_val (pe_callB (cr_any rfl) (by rfl) T.n_any (by decide +kernel) (pa_cons (pe_lc (own := [("_law_thing", 11)]) rfl sc_l_right.nd (pi_list (pe_lst (pa_cons pe_non (pa_cons pe_int (pa_cons (pv 2) (pa_cons (pe_callTy call_tuple_of (by rfl) T.n_tuple (by decide +kernel) (pa_cons (pv 2) pa_nil)) (pa_cons (pe_callB  (call_reprP T.f___repr__ T.i___repr__ (d_repr T).fp (hr.mono (by decide)) hgd) (by rfl) T.n_repr (by decide +kernel) (pa_cons (pv 5) pa_nil)) (pa_cons pe_dnewK pa_nil)))))))) (blkOk_by (own := [("_law_thing", 11)]) (N := ["_law_pot_here", "_law_tags", "_law_due", "_law_mate", "_law_given", "_law_made", "_law_again", "_law_tupled", "_law_other", "_law_told", "_law_one", "_law_thing"]) (sc := defScope s_l_right) (by decide +kernel)) (fun _ _ _ _ _ => (pg_name (i := 11) sc_l_right.nd rfl (by first | exact Or.inl rfl | exact Or.inr rfl))) (fun _ _ _ _ _ => pts_nil) (fun _ _ _ _ _ => (pe_cmpR (op_eqPK (F0 := K) rfl T.f___eq__ T.i___eq__ (d_eq T).fp (hr.mono (by decide)) hgd) (pv 5) (pv 11) (nomark _)))) pa_nil))) (pw_or1 (pt_cmpR (op_neP T.f___eq__ T.i___eq__ T.ne T.mo (d_eq T).fp (hr.mono (by decide)) hgd) (pv 5) (pv 7) (nomark _))))) (pss_one (ps_ret pe_bl)) pss_nil)
      (pss_one (ps_ret (pe_and (pe_cmpR (op_eqD (un64 hr)) (pe_lst (pa_cons (ClX.pe_cval (pe_glob (v := .ref (He.ga K "Kind")) (by rfl) T.g_Kind rfl)) (pa_cons (ClX.pe_cval (pe_glob (v := .ref (He.ga K "Kind")) (by rfl) T.g_Kind rfl)) pa_nil))) (pe_lst (pa_cons pe_int (pa_cons pe_int pa_nil))) (nomark _)) (pe_one (pe_own D_l_told_right (hr.mono (by first | decide | omega)) hgd (pa_cons (pv 5) (pa_cons (pv 2) pa_nil)))))))))))))))))))), ?_⟩
    refine ⟨_, rfl, _, rfl, p, 10, rfl, hp, by decide, by decide, fun d H1 d0 d1 s1 => ?_⟩
    refine ⟨1, d, rfl, rfl, ?_⟩
    refine ⟨p, (1 + d).toNat, by show [V.ref p, V.int (1 + d)] = _; rw [show (((1 + d).toNat : Nat) : Int) = 1 + d by omega], s1 _ _ hp, by omega, fun Tg ns H2 s2 nT hT nsok lns => ?_⟩
    have t2 := s1.trans s2
    refine ⟨_, rfl, _, rfl, p, Tg, ns, rfl, t2 _ _ hp, hT, nsok, by omega, by omega, fun D xs es H3 s3 nD hD el du => ?_⟩
    have t3 := t2.trans s3
    refine ⟨_, rfl, _, rfl, p, Tg, ns, rfl, t3 _ _ hp, s3 _ _ hT, nsok, by omega, by omega, fun M ys fs H4 s4 nM hM elM duM => ?_⟩
    have t4 := t3.trans s4
    refine ⟨_, _, rfl, ?_⟩
    obtain ⟨m1, m2, dm⟩ := due_m du
    obtain ⟨r1, r2, dmM⟩ := due_m duM
    have hD4 := s4 _ _ hD
    have el4 := el.same s4
    have l0 := du.ok.l0
    have l1 := du.ok.l1
    have k1 := duM.ok.l1
    refine ⟨_, rfl, _, rfl, p, D, xs, es, rfl, t4 _ _ hp, hD4, el4, by omega, fun G zs gs u v H5 s5 nG hG elG u0 u1 v0 v1 pm => ?_⟩
    have t5 := t4.trans s5
    have gok := pas_ok dm pm u0 u1 v0 v1
    have gle := pas_le dm pm
    refine ⟨_, rfl, G, zs, gs, rfl, hG, elG, gok, gle, fun A1 fA a1 a2 H6 s6 nA kA knA => ?_⟩
    obtain ⟨rfl, rfl, rfl⟩ := pas_kn dm pm knA
    refine ⟨rfl, _, rfl, G, zs, gs, rfl, .inl (s6 _ _ hG), elG.same s6, gok, gle, fun B fB b1 b2 H7 s7 nB kB knB => ?_⟩
    obtain ⟨rfl, rfl, rfl⟩ := pas_kn dm pm knB
    refine ⟨by show (2 : Nat) ≤ sizeLine; decide, fun t nt => ?_⟩
    refine ⟨t, _, rfl, SqT.of upd_same, rfl, _, _, rfl, _, _, rfl, rfl, ?_⟩
    have s8 := Same.new (o := .tup [V.ref A1, V.ref B]) nt
    have kB8 := kB.same s8
    generalize upd H7 t (.tup [V.ref A1, V.ref B]) = H8 at s8 kB8
    have w8 := (s6.trans s7).trans s8
    have v8 := s5.trans w8
    have t8 := t5.trans w8
    have hD8 := v8 _ _ hD4
    have el8 := el4.same v8
    refine ⟨rfl, _, rfl, _, rfl, p, D, xs, _, rfl, t8 _ _ hp, hD8, el8, by omega, fun G2 zs2 gs2 u2' v2' H9 s9 nG2 hG2 elG2 u20 u21 v20 v21 pm2 => ?_⟩
    refine ⟨G2, zs2, rfl, .inl ⟨SqL.of hG2, fun tt ntt => ?_⟩⟩
    refine ⟨tt, zs2, gs2, rfl, .inr upd_same, elG2.same (Same.new ntt), pas_ok dm pm2 u20 u21 v20 v21, pas_le dm pm2, fun C fC cc1 cc2 HB sB nC kC knC => ?_⟩
    obtain ⟨rfl, rfl, rfl⟩ := pas_kn dm pm2 knC
    have wB := (s9.trans (Same.new (o := .tup zs2) ntt)).trans sB
    have vB := v8.trans wB
    have tB := t8.trans wB
    refine ⟨_, rfl, _, rfl, p, M, ys, _, rfl, tB _ _ hp, vB _ _ hM, elM.same vB, by omega, fun G3 zs3 gs3 u3' v3' HC sC nG3 hG3 elG3 u30 u31 v30 v31 pm3 => ?_⟩
    refine ⟨G3, zs3, gs3, rfl, hG3, elG3, pas_ok dmM pm3 u30 u31 v30 v31, pas_le dmM pm3, fun O fO oo1 oo2 HD sD nO kO knO => ?_⟩
    obtain ⟨rfl, rfl, rfl⟩ := pas_kn dmM pm3 knO
    refine ⟨_, _, rfl, ?_⟩
    have wD := sC.trans sD
    have vD := vB.trans wD
    have tD := tB.trans wD
    have kAD := (kA.same (s7.trans s8)).same (wB.trans wD)
    have kBD := kB8.same (wB.trans wD)
    have kCD := kC.same wD
    obtain ⟨dxA, tA, rA, zA, hAD, _⟩ := id kAD
    refine ⟨_, rfl, A1, dxA, _, rfl, hAD, rfl, A1, _, _, _, rfl, kAD, fun E zsE HE sE nE hE elE => ?_⟩
    refine ⟨_, rfl, A1, dxA, _, rfl, sE _ _ hAD, rfl, A1, _, _, _, rfl, kAD.same sE, by omega, fun N nsN HF sF nN hN nof => ?_⟩
    refine ⟨by show (2 : Nat) ≤ sizeLine; decide, fun TL nTL => ?_⟩
    have sT := Same.new (o := .lst [V.ref E, V.ref N]) nTL
    have hT9 : (upd HF TL (.lst [V.ref E, V.ref N])) TL = some (.lst [V.ref E, V.ref N]) := upd_same
    generalize upd HF TL (.lst [V.ref E, V.ref N]) = HG at sT hT9
    have hEG := sT _ _ (sF _ _ hE)
    have hNG := sT _ _ hN
    have wG := sE.trans (sF.trans sT)
    refine ⟨_, rfl, TL, _, 0, .ref E, rfl, rfl, SqL.of hT9, rfl, ty_lst hEG, ?_⟩
    refine ⟨by show (3 : Nat) ≤ sizeLine; decide, fun zt nzt => ?_⟩
    have sH := Same.new (o := .tup [V.int 0, V.int 0, V.str "zz"]) nzt
    generalize upd HG zt (.tup [V.int 0, V.int 0, V.str "zz"]) = HH at sH
    have hEH := sH _ _ hEG
    have hNH := sH _ _ hNG
    have hTH := sH _ _ hT9
    have lE := elE.len
    refine ⟨E, zsE, _, rfl, rfl, hEH, Nat.lt_of_le_of_lt (m := 6) (by omega) (by decide), ?_⟩
    have nTE : TL ≠ E := fun z => by rw [z, sF _ _ hE] at nTL; cases nTL
    have nNE : N ≠ E := fun z => by rw [z, hE] at nN; cases nN
    have hN1 : (upd HH E (.lst (zsE ++ [V.ref zt]))) N = some (.lst (nsN.map V.str)) := by rw [upd_ne nNE]; exact hNH
    have hT1 : (upd HH E (.lst (zsE ++ [V.ref zt]))) TL = some (.lst [V.ref E, V.ref N]) := by rw [upd_ne nTE]; exact hTH
    have wH := wG.trans sH
    have xH := vD.trans wH
    have nE4 : H4 E = none := vD.free nE
    have nN4 : H4 N = none := (vD.trans sE).free nN
    have p1 : L2.Same H4 (upd HH E (.lst (zsE ++ [V.ref zt]))) := Same.mut xH nE4
    have q1 : Keep HD (upd HH E (.lst (zsE ++ [V.ref zt]))) := (Keep.of wH).mut hEH
    have hGD := (w8.trans (wB.trans wD)) _ _ hG
    have nGE : G ≠ E := fun z => by rw [z] at hGD; rw [hGD] at nE; cases nE
    have nGN : G ≠ N := fun z => by rw [z] at hGD; rw [sE _ _ hGD] at nN; cases nN
    have hG1 : (upd HH E (.lst (zsE ++ [V.ref zt]))) G = some (.lst zs) := by rw [upd_ne nGE]; exact wH _ _ hGD
    generalize upd HH E (.lst (zsE ++ [V.ref zt])) = J1 at hN1 hT1 p1 q1 hG1
    refine ⟨_, rfl, TL, _, 1, .ref N, rfl, rfl, SqL.of hT1, rfl, ty_lst hN1, ?_⟩
    refine ⟨N, _, rfl, rfl, hN1, ?_⟩
    have p2 : L2.Same H4 (upd J1 N (.lst [])) := Same.mut p1 nN4
    have q2 : Keep HD (upd J1 N (.lst [])) := q1.mut hN1
    have hG2' : (upd J1 N (.lst [])) G = some (.lst zs) := by rw [upd_ne nGN]; exact hG1
    generalize upd J1 N (.lst []) = J2 at p2 q2 hG2'
    refine ⟨_, rfl, ty_lst hG2', G, zs, rfl, rfl, hG2', ?_⟩
    have p3 : L2.Same H4 (upd J2 G (.lst [])) := Same.mut p2 nG
    have q3 : Keep HD (upd J2 G (.lst [])) := q2.mut hG2'
    generalize upd J2 G (.lst []) = J3 at p3 q3
    refine ⟨_, rfl, _, rfl, _, rfl, by show (3 : Nat) ≤ sizeLine; decide, fun L3 nL3 => ?_⟩
    have sL := Same.new (o := .lst [V.ref A1, V.ref B, V.ref C]) nL3
    have hL3 : (upd J3 L3 (.lst [V.ref A1, V.ref B, V.ref C])) L3 = some (.lst [V.ref A1, V.ref B, V.ref C]) := upd_same
    generalize upd J3 L3 (.lst [V.ref A1, V.ref B, V.ref C]) = J4 at sL hL3
    have p4 := p3.trans sL
    have q4 := q3.trans (Keep.of sL)
    have hp4 := (t4.trans p4) _ _ hp
    have hD5 := p4 _ _ hD4
    have el5 := el4.same p4
    have hM5 := p4 _ _ hM
    have elM5 := elM.same p4
    have kA4 := kAD.keep q4
    have kB4 := kBD.keep q4
    have kC4 := kCD.keep q4
    have kO4 := kO.keep q4
    refine ⟨L3, rfl, ⟨_, SqL.of hL3⟩, ?_⟩
    refine for_it (walk_list (xs := [V.ref A1, V.ref B, V.ref C])) (fun i σ H' => ∃ s10 s11 : Option V, σ = [some (.ref p), some (.ref Tg), some (.ref D), some (.ref M), some (.ref G), some (.ref A1), some (.ref B), some (.ref C), some (.ref O), some (.ref TL), s10, s11] ∧ L2.Same J4 H') ⟨_, _, rfl, Same.refl _⟩ (fun i σ H' _ ⟨_, _, _, s⟩ => SqL.of (s _ _ hL3)) (fun i x σ K1 K2 hi hP y => ?_) (fun σ K1 hP => ?_)
    · obtain ⟨s10, s11, rfl, g1⟩ := hP
      obtain ⟨rfl, hx⟩ := y
      have hX : ∃ X, x = .ref X ∧ KindAt K J4 X fC cc1 cc2 := by
        have hm := List.mem_of_getElem? hx
        simp only [List.mem_cons, List.not_mem_nil, or_false] at hm
        rcases hm with rfl | rfl | rfl
        · exact ⟨_, rfl, kA4⟩
        · exact ⟨_, rfl, kB4⟩
        · exact ⟨_, rfl, kC4⟩
      obtain ⟨X, rfl, kX⟩ := hX
      refine ⟨_, rfl, _, rfl, X, D, cc1, cc2, fC, xs, rfl, kX.same g1, dm.x, dm.y, g1 _ _ hD5, el5.same g1, du.ok, fun K3 g3 => ⟨_, rfl, iteF ?_⟩⟩
      have h3 := g1.trans g3
      refine ⟨_, rfl, _, rfl, X, D, cc1, cc2, fC, xs, rfl, kX.same h3, dm.x, dm.y, h3 _ _ hD5, el5.same h3, du.ok, fun K4 g4 => ⟨_, rfl, iteF ?_⟩⟩
      have h4 := h3.trans g4
      refine ⟨_, rfl, _, rfl, _, rfl, p, X, D, cc1, cc2, fC, xs, rfl, h4 _ _ hp4, kX.same h4, dm, h4 _ _ hD5, el5.same h4, fun K5 g5 => ⟨_, rfl, ?_⟩⟩
      refine iteF ?_
      exact ⟨_, _, rfl, h4.trans g5⟩
    · obtain ⟨s10, s11, rfl, g1⟩ := hP
      refine ⟨_, rfl, _, rfl, O, M, oo1, oo2, fO, ys, rfl, kO4.same g1, dmM.x, dmM.y, g1 _ _ hM5, elM5.same g1, duM.ok, fun K2 g2 => ⟨_, rfl, iteF ?_⟩⟩
      have h2 := g1.trans g2
      refine ⟨_, rfl, _, rfl, A1, D, cc1, cc2, fC, xs, rfl, kA4.same h2, dm, h2 _ _ hD5, el5.same h2, fun K3 g3 => ⟨_, rfl, ?_⟩⟩
      refine iteF ?_
      have h3 := h2.trans g3
      refine ⟨_, rfl, _, rfl, eqq T (kA4.same h3) (kB4.same h3) du.ok.ok du.ok.ok ?_⟩
      refine ⟨_, rfl, _, rfl, eqq T (kB4.same h3) (kC4.same h3) du.ok.ok du.ok.ok ?_⟩
      refine ⟨_, rfl, _, rfl, eqq T (kA4.same h3) (kO4.same h3) du.ok.ok duM.ok.ok ?_⟩
      refine ⟨_, rfl, _, rfl, eqq T (kO4.same h3) (kA4.same h3) duM.ok.ok du.ok.ok ?_⟩
      refine ⟨by show (4 : Nat) ≤ sizeLine; decide, fun La nLa => ?_⟩
      have sa := Same.new (o := .lst [V.bl (decide (fC = fC)), V.bl (decide (fC = fC)), V.bl (decide (fC = fO)), V.bl (decide (fO = fC))]) nLa
      have ha' : (upd K3 La (.lst [V.bl (decide (fC = fC)), V.bl (decide (fC = fC)), V.bl (decide (fC = fO)), V.bl (decide (fO = fC))])) La = some (.lst [V.bl (decide (fC = fC)), V.bl (decide (fC = fC)), V.bl (decide (fC = fO)), V.bl (decide (fO = fC))]) := upd_same
      generalize upd K3 La (.lst [V.bl (decide (fC = fC)), V.bl (decide (fC = fC)), V.bl (decide (fC = fO)), V.bl (decide (fO = fC))]) = K4 at sa ha'
      have h4 := h3.trans sa
      have okN : ∀ e ∈ fC, NmOk e := fun e he => (du.ok.ok e he).2.2.2.2
      have okM : ∀ e ∈ fO, NmOk e := fun e he => (duM.ok.ok e he).2.2.2.2
      have dD := Dp.lst (K := K) (SqL.of (h4 _ _ hD5)) (el5.same h4).dp
      have dM := Dp.lst (K := K) (SqL.of (h4 _ _ hM5)) (elM5.same h4).dp
      refine ⟨_, rfl, _, rfl, .list (fC.map eD), .list (fO.map eD), dD, dM, eDs_shL okN, eDs_shL okM, ?_⟩
      refine ⟨_, rfl, _, rfl, .list (fC.map eD), .list (fO.map eD), dD, dM, eDs_shL okN, eDs_shL okM, ?_⟩
      rw [eqvL]
      refine ⟨by show (4 : Nat) ≤ sizeLine; decide, fun Lb nLb => ?_⟩
      have sb := Same.new (o := .lst [V.bl true, V.bl true, V.bl (decide (fC = fO)), V.bl (decide (fC = fO))]) nLb
      have hb' : (upd K4 Lb (.lst [V.bl true, V.bl true, V.bl (decide (fC = fO)), V.bl (decide (fC = fO))])) Lb = some (.lst [V.bl true, V.bl true, V.bl (decide (fC = fO)), V.bl (decide (fC = fO))]) := upd_same
      generalize upd K4 Lb (.lst [V.bl true, V.bl true, V.bl (decide (fC = fO)), V.bl (decide (fC = fO))]) = K5 at sb hb'
      have h5 := h4.trans sb
      refine ⟨_, _, dp4 (sb _ _ ha'), dp4 hb', sh4 _ _ _ _, sh4 _ _ _ _, ?_⟩
      rw [eq4]
      refine ⟨_, rfl, ?_⟩
      refine iteF ?_
      refine ⟨_, rfl, _, rfl, D, xs, rfl, .inl ⟨SqL.of (h5 _ _ hD5), fun tu ntu => ?_⟩⟩
      have sc := Same.new (o := .tup xs) ntu
      have hc' : (upd K5 tu (.tup xs)) tu = some (.tup xs) := upd_same
      generalize upd K5 tu (.tup xs) = K6 at sc hc'
      have h6 := h5.trans sc
      obtain ⟨dxK, tK, rK, zK, hAK, _⟩ := id kA4
      refine ⟨_, rfl, A1, dxK, _, rfl, h6 _ _ hAK, A1, fC, cc1, cc2, rfl, kA4.same h6, du.ok.ok, by omega, kTxt fC, rfl, ?_⟩
      intro dd ndd
      have se := Same.new (o := .dK []) ndd
      have he' : (upd K6 dd (.dK [])) dd = some (.dK []) := upd_same
      generalize upd K6 dd (.dK []) = K7 at se he'
      have h7 := h6.trans se
      refine ⟨by show (6 : Nat) ≤ sizeLine; decide, fun Lc nLc => ?_⟩
      have sf := Same.new (o := .lst [V.non, V.int 0, V.ref D, V.ref tu, V.str (kTxt fC), V.ref dd]) nLc
      have hf' : (upd K7 Lc (.lst [V.non, V.int 0, V.ref D, V.ref tu, V.str (kTxt fC), V.ref dd])) Lc = some (.lst [V.non, V.int 0, V.ref D, V.ref tu, V.str (kTxt fC), V.ref dd]) := upd_same
      generalize upd K7 Lc (.lst [V.non, V.int 0, V.ref D, V.ref tu, V.str (kTxt fC), V.ref dd]) = K8 at sf hf'
      have h8 := h7.trans sf
      have kl := kTxt_len2 du.ok.ok du.wd l1
      have all : ∀ x ∈ [V.non, V.int 0, V.ref D, V.ref tu, V.str (kTxt fC), V.ref dd], NoK K K8 x := by
        intro x hx
        simp only [List.mem_cons, List.not_mem_nil, or_false] at hx
        rcases hx with rfl | rfl | rfl | rfl | rfl | rfl
        · exact ⟨.non, .inl fun _ z => by cases z⟩
        · exact ⟨.int _, .inl fun _ z => by cases z⟩
        · exact ⟨.lst (h8 _ _ hD5), .inr ⟨_, _, rfl, h8 _ _ hD5, fun _ _ z => by cases z⟩⟩
        · exact ⟨.tup ((se.trans sf) _ _ hc'), .inr ⟨_, _, rfl, (se.trans sf) _ _ hc', fun _ _ z => by cases z⟩⟩
        · exact ⟨.str _ (by omega), .inl fun _ z => by cases z⟩
        · exact ⟨.dct (sf _ _ he'), .inr ⟨_, _, rfl, sf _ _ he', fun _ _ z => by cases z⟩⟩
      have lw : [V.non, V.int 0, V.ref D, V.ref tu, V.str (kTxt fC), V.ref dd].length = 6 := rfl
      generalize [V.non, V.int 0, V.ref D, V.ref tu, V.str (kTxt fC), V.ref dd] = ws at hf' all lw
      refine ⟨Lc, rfl, ⟨_, SqL.of hf'⟩, fun De nDe => ?_⟩
      refine lc_pure (walk_list (xs := ws)) nDe (by omega) (fun _ sm => SqL.of (sm _ _ hf')) (fun i y => y = .bl false) (fun i x H8 H9 Kn Z hi sm y q => ?_) (fun H8 yz sm hDe hl hrr => ?_)
      · obtain ⟨rfl, hx⟩ := y
        have nk := (all x (List.mem_of_getElem? hx)).same sm
        obtain ⟨ty, z1, z2, z3⟩ := nk.1.notK T nk.no
        exact ⟨rfl, _, rfl, _, rfl, A1, dxK, _, ty, rfl, sm _ _ (h8 _ _ hAK), z1, z3, A1, fC, cc1, cc2, x, rfl, (kA4.same h8).same sm, du.ok.ok, .inr ⟨nk.1, nk.no, _, rfl, q _ _ (Same.refl _) rfl⟩⟩
      · have e : yz = (List.replicate yz.length false).map V.bl := by
          rw [List.map_replicate]
          refine List.eq_replicate_iff.mpr ⟨rfl, fun b hb => ?_⟩
          obtain ⟨i, hi⟩ := List.mem_iff_getElem?.mp hb
          exact hrr i b hi
        refine ⟨De, List.replicate yz.length false, rfl, by rw [← e]; exact SqL.of hDe, _, rfl, ?_⟩
        have z : (List.replicate yz.length false).any id = false := by
          rw [List.any_eq_false]
          intro x hx
          rw [(List.mem_replicate.mp hx).2]
          decide
        rw [z]
        refine iteF ?_
        have h9 := h8.trans sm
        refine ⟨_, rfl, _, rfl, neq T (kA4.same h9) (kC4.same h9) du.ok.ok ?_⟩
        refine ⟨_, rfl, ?_⟩
        refine iteF ?_
        refine ⟨_, mc, _, _, rfl, cr, c2, ?_⟩
        refine ⟨_, mc, _, _, rfl, cr, c3, ?_⟩
        refine ⟨by show (2 : Nat) ≤ sizeLine; decide, fun Lf nLf => ?_⟩
        have sg := Same.new (o := .lst [V.int 6, V.int 3]) nLf
        have hg' : (upd H8 Lf (.lst [V.int 6, V.int 3])) Lf = some (.lst [V.int 6, V.int 3]) := upd_same
        generalize upd H8 Lf (.lst [V.int 6, V.int 3]) = H9 at sg hg'
        refine ⟨by show (2 : Nat) ≤ sizeLine; decide, fun Lg nLg => ?_⟩
        have si := Same.new (o := .lst [V.int 6, V.int 3]) nLg
        have hi' : (upd H9 Lg (.lst [V.int 6, V.int 3])) Lg = some (.lst [V.int 6, V.int 3]) := upd_same
        have hg2 := si _ _ hg'
        generalize upd H9 Lg (.lst [V.int 6, V.int 3]) = HJ at si hi' hg2
        refine ⟨_, _, dp2 hg2, dp2 hi', by decide +kernel, by decide +kernel, true, by decide +kernel, iteT ?_⟩
        have hf9 := h9.trans (sg.trans si)
        exact ⟨_, rfl, _, rfl, A1, D, cc1, cc2, fC, xs, rfl, kA4.same hf9, dm.x, dm.y, hf9 _ _ hD5, el5.same hf9, du.ok, fun H' s' => k H' ((t4.trans p4).trans (hf9.trans s'))⟩
end
end K11

set_option Elab.async false
set_option linter.all false
set_option maxRecDepth 100000
set_option maxHeartbeats 4000000
namespace K11
open PySem L2 Lay Own SrtO
local macro_rules | `(tactic| walk_at "ne") => `(tactic| first | assumption | (apply Ne.symm; assumption) | exact ne_of_none (by walk_at "look") (by assumption) | exact (ne_of_none (by walk_at "look") (by assumption)).symm)
local macro_rules | `(tactic| walk_at "look") => `(tactic| first | assumption | exact upd_same | (refine Eq.trans (upd_ne ?_) ?_; walk_at "ne"; walk_at "look"))
local macro_rules | `(tactic| walk_at "rds") => `(tactic| first | rfl | assumption | walk_at "look" | exact SqL.of (by walk_at "look") | exact SqT.of (by walk_at "look") | exact Or.inl (SqL.of (by walk_at "look")) | exact Or.inl (by assumption) | decide | omega | exact Nat.le_of_ble_eq_true rfl | exact Or.inr ⟨by decide, by decide⟩ | exact Or.inl ⟨by omega, by omega⟩ | exact ⟨by decide, by decide⟩)
local macro_rules | `(tactic| walk_at "rd1") => `(tactic| first | (apply Exists.intro) | (refine And.intro ?_ ?_; walk_at "rds") | (refine Or.inl ?_; apply Exists.intro; refine And.intro ?_ ?_; rfl))
local macro_rules | `(tactic| walk_at "rd") => `(tactic| repeat walk_at "rd1")
section
variable {P : Program} {w : World} {K : PySem.W.Frag} {mg : Str → Option Value} {base : Heap}
def spLaw (K : PySem.W.Frag) : Sp := fun vs H Q _ => ∃ (s : Addr) (ns : List Int), vs = [.ref s] ∧ SqL K H s (ns.map V.int) ∧ ns.length ≤ 63 ∧ ∀ H', L2.Same H H' → Q (.bl true) H'
theorem g_law (T : Txt K mg) {f : Addr} {fd : FuncData} (F : Fun K "law" "law" s_law f fd) : FnG P w K mg base CX0 13 f fd ["_law_script"] (spLaw K) := by
  have D_l_pot := d_pot (P := P) (w := w) (base := base) T
  have D_l_right := d_right (P := P) (w := w) (base := base) T
  refine okG F sc_law (fun vs H Q E h => ?_) (fun cdv A outer s H vs Q E hr hgd h => ?_)
  · obtain ⟨p, _, rfl, _⟩ := h; rfl
  · obtain ⟨p, ns, rfl, hp, hn, k⟩ := h
    refine ⟨_, (pss_one (ps_ret (pe_callB (cr_all rfl) (by rfl) T.n_all (by decide +kernel) (pa_cons (pe_lc (own := [("_law_k", 1)]) rfl sc_law.nd (pi_range1 (by rfl) T.n_range (pa_cons (pe_callB (call_max2 rfl) (by rfl) T.n_max (by decide +kernel) (pa_cons pe_int (pa_cons (pe_callB (call_min2 rfl) (by rfl) T.n_min (by decide +kernel) (pa_cons pe_int (pa_cons (pe_callB call_len_seq (by rfl) T.n_len PySem.boot_len (pa_cons (pv 0) pa_nil)) pa_nil))) pa_nil))) pa_nil)) (blkOk_by (own := [("_law_k", 1)]) (N := ["_law_script", "_law_k"]) (sc := defScope s_law) (by decide +kernel)) (fun _ _ _ _ _ => (pg_name (i := 1) sc_law.nd rfl (by first | exact Or.inl rfl | exact Or.inr rfl))) (fun _ _ _ _ _ => pts_nil) (fun _ _ _ _ _ => (pe_own D_l_right (hr.mono (by first | decide | omega)) hgd (pa_cons (pe_own D_l_pot (hr.mono (by first | decide | omega)) hgd (pa_cons (pv 0) (pa_cons (pv 1) pa_nil))) pa_nil)))) pa_nil)))), ?_⟩
    refine ⟨_, rfl, p, _, rfl, .inl hp, 6, _, rfl, 1, _, rfl, ?_⟩
    rw [List.length_map]
    obtain ⟨N, hN⟩ : ∃ N : Int, (if (if ((ns.length : Nat) : Int) < 6 then ((ns.length : Nat) : Int) else 6) > 1 then (if ((ns.length : Nat) : Int) < 6 then ((ns.length : Nat) : Int) else 6) else 1) = N := ⟨_, rfl⟩
    have nb : 0 ≤ N ∧ N ≤ 6 := by
      rw [← hN]
      split
      · split <;> omega
      · omega
    rw [hN]
    refine ⟨N, rfl, by omega, by omega, fun D nD => ?_⟩
    refine lc_pure (n := N.toNat) walk_range nD (by omega) (fun _ _ => trivial) (fun i y => y = .bl true) (fun i x H4 H5 Kn Z hi sm y q => ?_) (fun H4 xs sm hD hl hr => ?_)
    · obtain ⟨rfl, rfl⟩ := y
      refine ⟨rfl, _, rfl, _, rfl, p, ns, i, by show [V.ref p, V.int (0 + (i : Int))] = _; rw [Int.zero_add], sm.seq hp, hn, by omega, fun t H2 nt s2 ht => ?_⟩
      exact ⟨t, rfl, ht, fun H3 s3 => q _ _ (s2.trans s3) rfl⟩
    · have e : xs = (List.replicate xs.length true).map V.bl := by
        rw [List.map_replicate]
        refine List.eq_replicate_iff.mpr ⟨rfl, fun b hb => ?_⟩
        obtain ⟨i, hi⟩ := List.mem_iff_getElem?.mp hb
        exact hr i b hi
      refine ⟨D, List.replicate xs.length true, rfl, by rw [← e]; exact SqL.of hD, ?_⟩
      have z : (List.replicate xs.length true).all id = true := by
        rw [List.all_eq_true]
        intro x hx
        rw [(List.mem_replicate.mp hx).2]
        rfl
      rw [z]
      exact k _ sm
end
end K11

set_option Elab.async false
set_option linter.all false
set_option maxRecDepth 100000
set_option maxHeartbeats 4000000
namespace Hd
open PySem L2 Lay He PySem.Spec PyProof.Rows
/-- an own error's class, as a test -/
def clB (K : PySem.W.Frag) (C : Addr) (newId : String) (bmB : List Value) : Bool :=
  PySem.W.excInitIn K C bmB newId && (PySem.W.excOver K C bmB && (PySem.W.hasDictIn K C && (eqO (PySem.W.findIn K (.ref C) "__setattr__") (some (some (.builtin "object.__setattr__"))) &&
  (eqO (PySem.W.findIn K (.ref C) "__getattribute__") (some (some (.builtin "BaseException.__getattribute__"))) && (eqO (PySem.W.findIn K (.ref C) "__getattr__") (some none) &&
  (decide (PySem.W.subIn K (.ref C) (.type "BaseException") = some true) && (decide (PySem.W.typeIn K (.ref C) = some (.type "type")) && (PySem.W.keepIn K (.ref C) &&
  (eqO (PySem.W.findIn K (.ref C) "__class__") (some (some (.builtin "object.__class__"))) && decide (PySem.W.mroIn K C (.type "object") = some true))))))))))
theorem cl_ok {K : PySem.W.Frag} {h : Heap} {C : Addr} {newId : String} {bmB : List Value} (X : K.In h) (c : clB K C newId bmB = true) : Exv.Cl K C newId bmB := by
  obtain ⟨c1, c⟩ := ba c
  obtain ⟨c2, c⟩ := ba c
  obtain ⟨c3, c⟩ := ba c
  obtain ⟨c4, c⟩ := ba c
  obtain ⟨c5, c⟩ := ba c
  obtain ⟨c6, c⟩ := ba c
  obtain ⟨c7, c⟩ := ba c
  obtain ⟨c8, c⟩ := ba c
  obtain ⟨c9, c⟩ := ba c
  obtain ⟨c10, c11⟩ := ba c
  refine ⟨?_, eqO_ok c4, eqO_ok c5, eqO_ok c6, of_decide_eq_true c7, of_decide_eq_true c8, c9, c3, eqO_ok c10, of_decide_eq_true c11⟩
  cases q : K.lookup C with
  | none => unfold PySem.W.excInitIn at c1; rw [q] at c1; cases c1
  | some o =>
    obtain ⟨nm, N, qn, bs, bm, hdct, sn, sub, ab, col, dd, k0, k1, k2, k3, k5, hg, _⟩ := PySem.W.excInit_of X c1
    have e := X _ _ q
    rw [hg] at e
    obtain rfl := (Option.some.inj e)
    unfold PySem.W.hasDictIn PySem.W.clsIn at c3
    unfold PySem.W.excOver PySem.W.clsIn at c2
    rw [q] at c2 c3
    have c3' : hdct = true := c3
    subst c3'
    have c2' : (C == C && PySem.W.excTail bmB bm) = true := c2
    exact ⟨nm, qn, N, bs, bm, sn, sub, ab, col, dd, k0, k1, k2, k3, k5, rfl, (ba c2').2⟩
/-! the Hook: own tests, and the defs -/
def obsF (fb : PySem.W.Frag → Bool) (fn : List DefD) (K : PySem.W.Frag) : AlD := (fb K && (obsD [] fn K).1, (obsD [] fn K).2)
def obsFG (n : Nat) (fb : PySem.W.Frag → Bool) (fn : List DefD) (g : Addr → Option Obj) : AlD := obsF fb fn (frG g (asD g n))
def hookF (n : Nat) (fb : PySem.W.Frag → Bool) (fn : List DefD) : PySem.W.Hook where
  α := AlD
  obs := fun s => obsFG n fb fn s.heap.get?
  val := fun _ => valD fn
  says := fun _ h => ∃ K : PySem.W.Frag, K.In h ∧ obsF fb fn K = valD fn
  of := fun _ _ e => ⟨_, frG_in, e⟩
  keeps := fun _ _ _ ⟨K, hK, c⟩ k => ⟨K, PySem.W.Frag.In.keeps hK k, c⟩
theorem obsFG_eq {n : Nat} {fb : PySem.W.Frag → Bool} {fn : List DefD} {g : Addr → Option Obj} {s : Shared} (h : ∀ a, g a = s.heap.get? a) : obsFG n fb fn g = (hookF n fb fn).obs s := by
  have e : g = s.heap.get? := funext h
  rw [e] <;> rfl
theorem says_fb {fb : PySem.W.Frag → Bool} {fn : List DefD} {K : PySem.W.Frag} (c : obsF fb fn K = valD fn) : fb K = true :=
  (ba (show (fb K && (obsD [] fn K).1) = true from congrArg (fun z : AlD => z.1) c)).1
theorem says_fn {fb : PySem.W.Frag → Bool} {fn : List DefD} {K : PySem.W.Frag} (c : obsF fb fn K = valD fn) : SaysD [] fn K :=
  Prod.ext (ba (show (fb K && (obsD [] fn K).1) = true from congrArg (fun z : AlD => z.1) c)).2 (show (obsF fb fn K).2 = (valD fn).2 from congrArg (fun z : AlD => z.2) c)
/-- a def of the text -/
theorem fun_of {K : PySem.W.Frag} {x qual : Str} {st : Stmt} {f : Addr} {fd : FuncData} (F : FunD K x qual (defArgs st) (defBody st) (defScope st) [] [] f fd) : Fun K x qual st f fd := by
  obtain ⟨⟨oc, od, dV, kV, doc, pm, an, cdv, ct, osl, rfl, lk, hcd, hD, hK⟩, kp⟩ := F
  rcases hD with ⟨_, rfl⟩ | ⟨e, _⟩
  · exact ⟨⟨oc, od, kV, doc, pm, an, cdv, ct, osl, rfl, lk, hcd⟩, kp⟩
  · exact absurd rfl e
theorem src_of {K : PySem.W.Frag} {mg : Str → Option Value} {x : Str} {st : Stmt} {ps : List Str} {f : Addr} {fd : FuncData} (F : Fun K x x st f fd) (g : mg x = some (.ref f))
    (h : ∀ (kV doc pm : Value) (an : Option Addr) (cdv ct : Value) (us : List Value), us.length = ps.length → bindArgs (PySem.W.fnOf x x (defArgs st) (defBody st) (defScope st) .none kV doc pm an cdv ct) ⟨us, []⟩ = pure (ps.zip us))
    (h1 : ∀ (kV doc pm : Value) (an : Option Addr) (cdv ct : Value) (p : Str) (v : Value), ps = [p] → bindArgs (PySem.W.fnOf x x (defArgs st) (defBody st) (defScope st) .none kV doc pm an cdv ct) ⟨[], [(p, v)]⟩ = pure [(p, v)]) : Src K mg x st ps := by
  refine ⟨f, fd, F, g, F.binds h, fun p v e => ?_⟩
  obtain ⟨oc, od, kV, doc, pm, an, cdv, ct, osl, rfl, lk, hcd⟩ := F.ex
  exact h1 kV doc pm an cdv ct p v e
/-- a law's end over such a head -/
theorem walk_GE {l : PySem.W.OpenLaw} {n k : Nat} {q : Program} {loose : List Str} {XP : (Str → Option Value) → Heap → Prop} {YP : World → Heap → Prop} {d : DefRec} {x : Str}
    (hn : l.most = some n) (hn2 : n ≤ sizeLine) (hdf : d.params.defaults = []) (hr : Room k callerA)
    (F : ∀ (w : World) (mg : Str → Option Value) (fa : Addr) (h : Heap), YP w h → h.Ns mainGlobals mg → mg d.name = some (.ref fa) →
      ∃ (K : PySem.W.Frag) (fd : FuncData) (sp : Sp), K.In h ∧ (∀ (s : Shared) (u : Value), BindsTo s fd ⟨[u], []⟩ [(x, u)]) ∧
        (∀ (H : Hp) (a : Addr) (ns : List Int), ns.length ≤ n → Only H → SqL K H a (ns.map V.int) → sp [.ref a] H (fun v _ => v = .bl true) fun _ _ _ => False) ∧
        ∀ base : Heap, K.In base → base.Ns mainGlobals mg → FnG l.prog w K mg base CX0 k fa fd [x] sp) :
    PySem.W.WalkO q loose XP YP l.row.toRowW d [] (fun f vs => PySem.call f vs) := by
  refine Att.attach_call hn hdf fun w s0 s1 mg mb fa o pm cd doc a vs ns G Y ho hd hcd hmg hobj hints hlen hg => ?_
  obtain ⟨K, fd, sp, KX, hb, hsp, hF⟩ := F w mg fa _ Y G.T.g hmg
  exact law_callG KX G.T.g G.T.b G.T.builtins G.T.nolimit hg hobj hints (Nat.le_trans hlen hn2) hr hF hb fun H hO hS => hsp H a ns hlen hO hS
end Hd

set_option Elab.async false
set_option linter.all false
set_option maxRecDepth 100000
set_option maxHeartbeats 4000000
namespace Ha
open PySem L2 Lay He Hd PySem.Spec PyProof.Rows
/-- one def: its address, its name, its qualified name, its statement -/
structure DefA where
  ad : PySem.W.Frag → Addr
  name : Str
  qual : Str
  st : Stmt
def fnA (K : PySem.W.Frag) (a : Addr) : FnW := match K.lookup a with
  | some ⟨_, _, .func fd, _⟩ => some (fd.name, fd.qualname, fd.params, fd.body, fd.scope, fd.globals, fd.closure, fd.builtins)
  | _ => none
def isNone : Value → Bool
  | .none => true
  | _ => false
def DefA.val (d : DefA) : FnW := some (d.name, d.qual, defArgs d.st, .stmts (defBody d.st), defScope d.st, mainGlobals, [], builtinsNs)
def DefA.ok (K : PySem.W.Frag) (d : DefA) : Bool := PySem.W.keepIn K (.ref (d.ad K)) && (match K.lookup (d.ad K) with
  | some ⟨_, _, .func fd, _⟩ => PySem.W.codeIn K fd.code d.qual && isNone fd.defaults
  | _ => false)
theorem DefA.fun {K : PySem.W.Frag} {d : DefA} (e : fnA K (d.ad K) = d.val) (c : d.ok K = true) : ∃ fd, Fun K d.name d.qual d.st (d.ad K) fd := by
  obtain ⟨kp, c2⟩ := ba c
  unfold fnA at e
  cases q : K.lookup (d.ad K) with
  | none => rw [q] at c2; cases c2
  | some o =>
    obtain ⟨oc, od, dt, osl⟩ := o
    rw [q] at c2 e
    cases dt with
    | func fd =>
      obtain ⟨n1, n2, n3, n4, n5, n6, n7, n8, n9, n10, n11, n12, n13, n14, n15⟩ := fd
      have e2 : (some (n1, n2, n3, n4, n5, n6, n7, n15) : FnW) = some (d.name, d.qual, defArgs d.st, .stmts (defBody d.st), defScope d.st, mainGlobals, [], builtinsNs) := e
      simp only [Option.some.injEq, Prod.mk.injEq] at e2
      obtain ⟨h1, h2, h3, h4, h5, h6, h7, h8⟩ := e2
      subst h1 h2 h3 h4 h5 h6 h7 h8
      obtain ⟨k1, k2⟩ := ba (show (PySem.W.codeIn K n13 d.qual && isNone n8) = true from c2)
      cases n8 with
      | none => exact ⟨_, ⟨⟨oc, od, n9, n10, n11, n12, n13, n14, osl, rfl, q, k1⟩, kp⟩⟩
      | _ => cases k2
    | _ => cases c2
abbrev AlA : Type := Bool × List FnW
def obsA (fb : PySem.W.Frag → Bool) (fn : List DefA) (K : PySem.W.Frag) : AlA := (fb K && fn.all fun d => d.ok K, fn.map fun d => fnA K (d.ad K))
def valA (fn : List DefA) : AlA := (true, fn.map DefA.val)
def asA (g : Addr → Option Obj) (n : Nat) : List Addr := PySem.cStatics :: asD g n
def obsAG (n : Nat) (fb : PySem.W.Frag → Bool) (fn : List DefA) (g : Addr → Option Obj) : AlA := obsA fb fn (frG g (asA g n))
def hookA (n : Nat) (fb : PySem.W.Frag → Bool) (fn : List DefA) : PySem.W.Hook where
  α := AlA
  obs := fun s => obsAG n fb fn s.heap.get?
  val := fun _ => valA fn
  says := fun _ h => ∃ K : PySem.W.Frag, K.In h ∧ obsA fb fn K = valA fn
  of := fun _ _ e => ⟨_, frG_in, e⟩
  keeps := fun _ _ _ ⟨K, hK, c⟩ k => ⟨K, PySem.W.Frag.In.keeps hK k, c⟩
theorem obsAG_eq {n : Nat} {fb : PySem.W.Frag → Bool} {fn : List DefA} {g : Addr → Option Obj} {s : Shared} (h : ∀ a, g a = s.heap.get? a) : obsAG n fb fn g = (hookA n fb fn).obs s := by
  have e : g = s.heap.get? := funext h
  rw [e] <;> rfl
theorem says_b {fb : PySem.W.Frag → Bool} {fn : List DefA} {K : PySem.W.Frag} (c : obsA fb fn K = valA fn) : fb K = true :=
  (ba (show (fb K && fn.all fun d => d.ok K) = true from congrArg (fun z : AlA => z.1) c)).1
theorem says_d {fb : PySem.W.Frag → Bool} {fn : List DefA} {K : PySem.W.Frag} (c : obsA fb fn K = valA fn) (i : Nat) {d : DefA} (h : fn[i]? = some d := by rfl) : ∃ fd, Fun K d.name d.qual d.st (d.ad K) fd := by
  have c2 := (ba (show (fb K && fn.all fun d => d.ok K) = true from congrArg (fun z : AlA => z.1) c)).2
  have e : fn.map (fun d => fnA K (d.ad K)) = fn.map DefA.val := congrArg (fun z : AlA => z.2) c
  have e2 : (fn.map fun d => fnA K (d.ad K))[i]? = (fn.map DefA.val)[i]? := by rw [e]
  rw [List.getElem?_map, List.getElem?_map, h] at e2
  exact DefA.fun (Option.some.inj e2) (List.all_eq_true.mp c2 d (List.mem_of_getElem? h))
/-- arguments of a def by place, one by its name -/
theorem two_of {K : PySem.W.Frag} {x qual : Str} {st : Stmt} {ps : List Str} {f : Addr} {fd : FuncData} (F : Fun K x qual st f fd)
    (h : ∀ (kV doc pm : Value) (an : Option Addr) (cdv ct : Value) (us : List Value), us.length = ps.length → bindArgs (PySem.W.fnOf x qual (defArgs st) (defBody st) (defScope st) .none kV doc pm an cdv ct) ⟨us, []⟩ = pure (ps.zip us))
    (h1 : ∀ (kV doc pm : Value) (an : Option Addr) (cdv ct : Value) (p : Str) (v : Value), ps = [p] → bindArgs (PySem.W.fnOf x qual (defArgs st) (defBody st) (defScope st) .none kV doc pm an cdv ct) ⟨[], [(p, v)]⟩ = pure [(p, v)]) : Binds K fd ps [] ∧ Kw1 fd ps := by
  refine ⟨F.binds h, fun p v e => ?_⟩
  obtain ⟨oc, od, kV, doc, pm, an, cdv, ct, osl, rfl, lk, hcd⟩ := F.ex
  exact h1 kV doc pm an cdv ct p v e
/-! tests -/
/-- the record of a static method, a property -/
def rcA (K : PySem.W.Frag) (p : Addr) (kind : String) : Addr := match PySem.W.recIn K p kind with
  | some (.ref g :: _) => g
  | _ => 0
def hdR (l : Option (List Value)) (g : Addr) : Bool := match l with
  | some (v :: _) => decide (v = .ref g)
  | _ => false
theorem hdR_ok {l : Option (List Value)} {g : Addr} (c : hdR l g = true) : ∃ rest, l = some (.ref g :: rest) := by
  cases l with
  | none => cases c
  | some l =>
    cases l with
    | nil => cases c
    | cons v r => exact ⟨r, by rw [of_decide_eq_true (show decide (v = .ref g) = true from c)]⟩
def rcB (K : PySem.W.Frag) (p : Addr) (kind : String) : Bool := hdR (PySem.W.recIn K p kind) (rcA K p kind)
theorem rc_ok {K : PySem.W.Frag} {p : Addr} {kind : String} (c : rcB K p kind = true) : ∃ rest, PySem.W.recIn K p kind = some (.ref (rcA K p kind) :: rest) := hdR_ok c
def crdB (K : PySem.W.Frag) (C : Addr) : Bool := PySem.W.readsIn K C (.type "type") && eqO (PySem.W.specialIn K (.ref C) "__getattribute__") (some (some (.builtin "type.__getattribute__")))
theorem crd_ok {K : PySem.W.Frag} {C : Addr} (c : crdB K C = true) : ClX.CRead K C (.type "type") := ⟨(ba c).1, eqO_ok (ba c).2⟩
def isGet (r : Option PySem.W.CFound) (a b c d : Value) : Bool := match r with
  | some (.get a' b' c' d') => decide (a' = a) && (decide (b' = b) && (decide (c' = c) && decide (d' = d)))
  | _ => false
theorem isGet_ok {r : Option PySem.W.CFound} {a b c d : Value} (h : isGet r a b c d = true) : r = some (.get a b c d) := by
  cases r with
  | none => cases h
  | some f =>
    cases f with
    | val v => cases h
    | get a' b' c' d' =>
      obtain ⟨h1, h⟩ := ba (show (decide (a' = a) && (decide (b' = b) && (decide (c' = c) && decide (d' = d)))) = true from h)
      obtain ⟨h2, h⟩ := ba h
      obtain ⟨h3, h4⟩ := ba h
      rw [of_decide_eq_true h1, of_decide_eq_true h2, of_decide_eq_true h3, of_decide_eq_true h4]
def isVal (r : Option PySem.W.CFound) (x : V) : Bool := match r with
  | some (.val v) => relB x v
  | _ => false
theorem isVal_ok {r : Option PySem.W.CFound} {x : V} (h : isVal r x = true) : ∃ u, r = some (.val u) ∧ RelV x u := by
  cases r with
  | none => cases h
  | some f =>
    cases f with
    | val v => exact ⟨v, rfl, relB_ok h⟩
    | get a' b' c' d' => cases h
def cstB (K : PySem.W.Frag) (C : Addr) (m : Str) : Bool := isGet (PySem.W.findCls K (.ref C) (.type "type") m) (.builtin "staticmethod.__get__") (.ref (ma K C m)) .none (.ref C) && (rcB K (ma K C m) "staticmethod" && PySem.W.keepIn K (.ref (rcA K (ma K C m) "staticmethod")))
theorem cst_ok {K : PySem.W.Frag} {C : Addr} {m : Str} (c : cstB K C m = true) :
    PySem.W.findCls K (.ref C) (.type "type") m = some (.get (.builtin "staticmethod.__get__") (.ref (ma K C m)) .none (.ref C)) ∧ (∃ rest, PySem.W.recIn K (ma K C m) "staticmethod" = some (.ref (rcA K (ma K C m) "staticmethod") :: rest)) ∧
      PySem.W.keepIn K (.ref (rcA K (ma K C m) "staticmethod")) = true := ⟨isGet_ok (ba c).1, rc_ok (ba (ba c).2).1, (ba (ba c).2).2⟩
def cviB (K : PySem.W.Frag) (C : Addr) (f : Str) (i : Int) : Bool := isVal (PySem.W.findCls K (.ref C) (.type "type") f) (.int i)
theorem cvi_ok {K : PySem.W.Frag} {C : Addr} {f : Str} {i : Int} (c : cviB K C f i = true) : ∃ u, ClX.CVal K C (.type "type") f (.int i) u := by
  obtain ⟨u, e, r⟩ := isVal_ok c
  exact ⟨u, e, r⟩
def prpB (K : PySem.W.Frag) (C : Addr) (f : Str) : Bool := eqO (PySem.W.findIn K (.ref C) f) (some (some (.ref (ma K C f)))) && (eqO (PySem.W.specialIn K (.ref (ma K C f)) "__get__") (some (some (.builtin "property.__get__"))) &&
  (decide (PySem.W.takesIn K (.ref (ma K C f)) = some true) && rcB K (ma K C f) "property"))
theorem prp_ok {K : PySem.W.Frag} {C : Addr} {f : Str} (c : prpB K C f = true) : PropOf K C f (ma K C f) (rcA K (ma K C f) "property") := by
  obtain ⟨c1, c⟩ := ba c
  obtain ⟨c2, c⟩ := ba c
  obtain ⟨c3, c4⟩ := ba c
  exact ⟨eqO_ok c1, eqO_ok c2, of_decide_eq_true c3, rc_ok c4⟩
def dunB (K : PySem.W.Frag) (C : Addr) (m : Str) : Bool := eqO (PySem.W.findIn K (.ref C) m) (some (some (.ref (ma K C m)))) && PySem.W.isFn K (.ref (ma K C m))
theorem dun_ok {K : PySem.W.Frag} {C : Addr} {m : Str} (c : dunB K C m = true) : PySem.W.findIn K (.ref C) m = some (some (.ref (ma K C m))) ∧ PySem.W.isFn K (.ref (ma K C m)) = true := ⟨eqO_ok (ba c).1, (ba c).2⟩
def ktB (K : PySem.W.Frag) (C : Addr) (ts : List String) : Bool := ts.all fun n => decide (PySem.W.kitOne K (.type n) (.ref C) = some false) && (decide (PySem.W.kitOne K (.ref C) (.type n) = some false) && PySem.W.notFirst K C (.type n))
theorem kt_ok {K : PySem.W.Frag} {C : Addr} {ts : List String} (c : ktB K C ts = true) : ∀ n ∈ ts, PySem.W.kitOne K (.type n) (.ref C) = some false ∧ PySem.W.kitOne K (.ref C) (.type n) = some false ∧ PySem.W.notFirst K C (.type n) = true := fun n hn => by
  obtain ⟨c1, c2⟩ := ba (List.all_eq_true.mp c n hn)
  obtain ⟨c2, c3⟩ := ba c2
  exact ⟨of_decide_eq_true c1, of_decide_eq_true c2, c3⟩
end Ha

set_option Elab.async false
set_option linter.all false
set_option maxRecDepth 100000
set_option maxHeartbeats 0
namespace K11
open PySem L2 Lay He Hd Ha Own
def fnL : List DefA := [
  ⟨fun K => ga K "is_integer", "is_integer", "is_integer", s_is_integer⟩,
  ⟨fun K => ga K "is_name", "is_name", "is_name", s_is_name⟩,
  ⟨fun K => ga K "is_list", "is_list", "is_list", s_is_list⟩,
  ⟨fun K => ga K "in_order", "in_order", "in_order", s_in_order⟩,
  ⟨fun K => ga K "merged", "merged", "merged", s_merged⟩,
  ⟨fun K => ga K "is_distance", "is_distance", "is_distance", s_is_distance⟩,
  ⟨fun K => ga K "is_entry", "is_entry", "is_entry", s_is_entry⟩,
  ⟨fun K => ga K "check_entries", "check_entries", "check_entries", s_check_entries⟩,
  ⟨fun K => ga K "normed", "normed", "normed", s_normed⟩,
  ⟨fun K => ga K "reach_of", "reach_of", "reach_of", s_reach_of⟩,
  ⟨fun K => ga K "check_reach", "check_reach", "check_reach", s_check_reach⟩,
  ⟨fun K => ga K "_law_pot", "_law_pot", "_law_pot", s_l_pot⟩,
  ⟨fun K => ga K "_law_draw", "_law_draw", "_law_draw", s_l_draw⟩,
  ⟨fun K => ga K "_law_among", "_law_among", "_law_among", s_l_among⟩,
  ⟨fun K => ga K "_law_names", "_law_names", "_law_names", s_l_names⟩,
  ⟨fun K => ga K "_law_normed", "_law_normed", "_law_normed", s_l_normed⟩,
  ⟨fun K => ga K "_law_entries", "_law_entries", "_law_entries", s_l_entries⟩,
  ⟨fun K => ga K "_law_mixed", "_law_mixed", "_law_mixed", s_l_mixed⟩,
  ⟨fun K => ga K "_law_passed", "_law_passed", "_law_passed", s_l_passed⟩,
  ⟨fun K => ga K "_law_kind", "_law_kind", "_law_kind", s_l_kind⟩,
  ⟨fun K => ga K "_law_far", "_law_far", "_law_far", s_l_far⟩,
  ⟨fun K => ga K "_law_told_right", "_law_told_right", "_law_told_right", s_l_told_right⟩,
  ⟨fun K => ga K "_law_among_right", "_law_among_right", "_law_among_right", s_l_among_right⟩,
  ⟨fun K => ga K "_law_turned_right", "_law_turned_right", "_law_turned_right", s_l_turned_right⟩,
  ⟨fun K => ga K "_law_right", "_law_right", "_law_right", s_l_right⟩,
  ⟨fun K => ga K "law", "law", "law", s_law⟩,
  ⟨fun K => Kd.st K "of", "of", "Kind.of", s_Kind_of⟩,
  ⟨fun K => Kd.pr K "reach", "reach", "Kind.reach", s_Kind_reach⟩,
  ⟨fun K => Kd.pr K "is_flat", "is_flat", "Kind.is_flat", s_Kind_is_flat⟩,
  ⟨fun K => ma K (kc K) "entries", "entries", "Kind.entries", s_Kind_entries⟩,
  ⟨fun K => ma K (kc K) "names", "names", "Kind.names", s_Kind_names⟩,
  ⟨fun K => ma K (kc K) "mirrored", "mirrored", "Kind.mirrored", s_Kind_mirrored⟩,
  ⟨fun K => ma K (kc K) "turned", "turned", "Kind.turned", s_Kind_turned⟩,
  ⟨fun K => ma K (kc K) "__len__", "__len__", "Kind.__len__", s_Kind___len⟩,
  ⟨fun K => ma K (kc K) "__contains__", "__contains__", "Kind.__contains__", s_Kind___contains⟩,
  ⟨fun K => ma K (kc K) "__eq__", "__eq__", "Kind.__eq__", s_Kind___eq⟩,
  ⟨fun K => ma K (kc K) "__repr__", "__repr__", "Kind.__repr__", s_Kind___repr⟩,
  ⟨fun K => ma K (kc K) "__init__", "__init__", "Kind.__init__", s_Kind___init⟩]
def faL : List He.Fa := [.free "len", .free "int", .free "abs", .free "max", .free "min", .free "divmod", .free "isinstance", .free "bool", .free "str", .free "repr", .free "range", .free "all", .free "any", .free "tuple", .free "list", .free "sorted", .free "set", .free "enumerate", .int "MOST_LETTERS" 8, .int "FARTHEST" 20, .int "FEWEST_ENTRIES" 2, .glo "is_integer", .glo "is_name", .glo "is_list", .glo "in_order", .glo "merged", .glo "is_distance", .glo "is_entry", .glo "check_entries", .glo "normed", .glo "reach_of", .glo "check_reach", .glo "_law_pot", .glo "_law_draw", .glo "_law_among", .glo "_law_names", .glo "_law_normed", .glo "_law_entries", .glo "_law_mixed", .glo "_law_passed", .glo "_law_kind", .glo "_law_far", .glo "_law_told_right", .glo "_law_among_right", .glo "_law_turned_right", .glo "_law_right", .glo "law", .glo "Kind", .cls "Kind", .mkr "Kind", .meth "Kind" "entries", .meth "Kind" "names", .meth "Kind" "mirrored", .meth "Kind" "turned", .noat "Kind" "_entries", .noat "Kind" "_reach"]
def fbL : List (PySem.W.Frag → Bool) := [
  fun K => faL.all fun f => f.ok K,
  fun K => crdB K (kc K),
  fun K => cstB K (kc K) "of",
  fun K => cviB K (kc K) "MOST_ENTRIES" 6,
  fun K => cviB K (kc K) "MOST_REACH" 3,
  fun K => prpB K (kc K) "reach",
  fun K => prpB K (kc K) "is_flat",
  fun K => dunB K (kc K) "__len__",
  fun K => dunB K (kc K) "__contains__",
  fun K => dunB K (kc K) "__eq__",
  fun K => dunB K (kc K) "__repr__",
  fun K => eqO (PySem.W.findIn K (.ref (kc K)) "__ne__") (some (some (.builtin "object.__ne__"))),
  fun K => decide (PySem.W.mroIn K (kc K) (.type "object") = some true),
  fun K => ktB K (kc K) Ty7,
  fun K => decide (PySem.W.kitOne K (.ref (kc K)) (.ref (kc K)) = some true),
  fun K => eqO (PySem.W.findIn K (.ref (kc K)) "__class__") (some (some (.builtin "object.__class__"))),
  fun K => decide (PySem.W.specialIn K (.builtin "object.__class__") "__get__" = some (some (.builtin "getset_descriptor.__get__"))),
  fun K => decide (PySem.W.takesIn K (.builtin "object.__class__") = some true)]
def fb (K : PySem.W.Frag) : Bool := fbL.all fun f => f K
abbrev R : PySem.W.OpenRow := PySem.W.OpenLaw.row PySem.Challenge.rw_twoeach_k11_kinds_told
abbrev hk : PySem.W.Hook := hookA 5 fb fnL
def ob (s : PySem.W.SharedT) : AlA := obsAG 5 fb fnL (HandSHeadRun.getT s)
theorem ob_eq (s : PySem.W.SharedT) : ob s = hk.obs s.abs := obsAG_eq (HandSHeadRun.getT_eq s)
def looseL : List PySem.Str := [("MOST_LETTERS" : PySem.Str), ("FARTHEST" : PySem.Str), ("FEWEST_ENTRIES" : PySem.Str), ("_wall" : PySem.Str), ("is_integer" : PySem.Str), ("is_name" : PySem.Str), ("is_list" : PySem.Str), ("LineError" : PySem.Str), ("InvalidEntries" : PySem.Str), ("LimitError" : PySem.Str), ("TooMany" : PySem.Str), ("in_order" : PySem.Str), ("merged" : PySem.Str), ("is_distance" : PySem.Str), ("is_entry" : PySem.Str), ("check_entries" : PySem.Str), ("normed" : PySem.Str), ("reach_of" : PySem.Str), ("check_reach" : PySem.Str), ("shifted" : PySem.Str), ("lie_among" : PySem.Str), ("shifts_among" : PySem.Str), ("Kind" : PySem.Str), ("_law_pot" : PySem.Str), ("_law_draw" : PySem.Str), ("_law_among" : PySem.Str), ("_law_names" : PySem.Str), ("_law_normed" : PySem.Str), ("_law_entries" : PySem.Str), ("_law_mixed" : PySem.Str), ("_law_passed" : PySem.Str), ("_law_kind" : PySem.Str), ("_law_far" : PySem.Str), ("_law_told_right" : PySem.Str), ("_law_among_right" : PySem.Str), ("_law_turned_right" : PySem.Str), ("_law_right" : PySem.Str)]
end K11

set_option Elab.async false
set_option linter.all false
set_option maxRecDepth 100000
set_option maxHeartbeats 0
namespace K11
open PySem L2 Lay He Hd Ha
theorem run (w : World) : HandSHeadRun.RunEq R (PySem.W.view R.prog [42]) hk ob 9600 looseL w := by
  intro os
  kernel_rfl
end K11

set_option Elab.async false
set_option linter.all false
set_option maxRecDepth 100000
set_option maxHeartbeats 4000000
namespace K11
open PySem L2 Lay He Hd Ha Own
section
variable {K : PySem.W.Frag} {h : Heap} {mg : Str → Option Value}
theorem fb_at (c : fb K = true) (i : Nat) {f : PySem.W.Frag → Bool} (e : fbL[i]? = some f := by rfl) : f K = true := List.all_eq_true.mp (show (fbL.all fun f => f K) = true from c) f (List.mem_of_getElem? e)
theorem fa_at (c : fb K = true) (i : Nat) {f : He.Fa} (e : faL[i]? = some f := by rfl) : f.ok K = true := List.all_eq_true.mp (fb_at c 0) f (List.mem_of_getElem? e)
theorem t_n_len (X : K.In h) (G : h.Ns mainGlobals mg) (cc : obsA fb fnL K = valA fnL) : mg "len" = none := by
  have c : fb K = true := says_b cc
  exact free_ok X G (fa_at c 0)
theorem t_n_int (X : K.In h) (G : h.Ns mainGlobals mg) (cc : obsA fb fnL K = valA fnL) : mg "int" = none := by
  have c : fb K = true := says_b cc
  exact free_ok X G (fa_at c 1)
theorem t_n_abs (X : K.In h) (G : h.Ns mainGlobals mg) (cc : obsA fb fnL K = valA fnL) : mg "abs" = none := by
  have c : fb K = true := says_b cc
  exact free_ok X G (fa_at c 2)
theorem t_n_max (X : K.In h) (G : h.Ns mainGlobals mg) (cc : obsA fb fnL K = valA fnL) : mg "max" = none := by
  have c : fb K = true := says_b cc
  exact free_ok X G (fa_at c 3)
theorem t_n_min (X : K.In h) (G : h.Ns mainGlobals mg) (cc : obsA fb fnL K = valA fnL) : mg "min" = none := by
  have c : fb K = true := says_b cc
  exact free_ok X G (fa_at c 4)
theorem t_n_divmod (X : K.In h) (G : h.Ns mainGlobals mg) (cc : obsA fb fnL K = valA fnL) : mg "divmod" = none := by
  have c : fb K = true := says_b cc
  exact free_ok X G (fa_at c 5)
theorem t_n_isinstance (X : K.In h) (G : h.Ns mainGlobals mg) (cc : obsA fb fnL K = valA fnL) : mg "isinstance" = none := by
  have c : fb K = true := says_b cc
  exact free_ok X G (fa_at c 6)
theorem t_n_bool (X : K.In h) (G : h.Ns mainGlobals mg) (cc : obsA fb fnL K = valA fnL) : mg "bool" = none := by
  have c : fb K = true := says_b cc
  exact free_ok X G (fa_at c 7)
theorem t_n_str (X : K.In h) (G : h.Ns mainGlobals mg) (cc : obsA fb fnL K = valA fnL) : mg "str" = none := by
  have c : fb K = true := says_b cc
  exact free_ok X G (fa_at c 8)
theorem t_n_repr (X : K.In h) (G : h.Ns mainGlobals mg) (cc : obsA fb fnL K = valA fnL) : mg "repr" = none := by
  have c : fb K = true := says_b cc
  exact free_ok X G (fa_at c 9)
theorem t_n_range (X : K.In h) (G : h.Ns mainGlobals mg) (cc : obsA fb fnL K = valA fnL) : mg "range" = none := by
  have c : fb K = true := says_b cc
  exact free_ok X G (fa_at c 10)
theorem t_n_all (X : K.In h) (G : h.Ns mainGlobals mg) (cc : obsA fb fnL K = valA fnL) : mg "all" = none := by
  have c : fb K = true := says_b cc
  exact free_ok X G (fa_at c 11)
theorem t_n_any (X : K.In h) (G : h.Ns mainGlobals mg) (cc : obsA fb fnL K = valA fnL) : mg "any" = none := by
  have c : fb K = true := says_b cc
  exact free_ok X G (fa_at c 12)
theorem t_n_tuple (X : K.In h) (G : h.Ns mainGlobals mg) (cc : obsA fb fnL K = valA fnL) : mg "tuple" = none := by
  have c : fb K = true := says_b cc
  exact free_ok X G (fa_at c 13)
theorem t_n_list (X : K.In h) (G : h.Ns mainGlobals mg) (cc : obsA fb fnL K = valA fnL) : mg "list" = none := by
  have c : fb K = true := says_b cc
  exact free_ok X G (fa_at c 14)
theorem t_n_sorted (X : K.In h) (G : h.Ns mainGlobals mg) (cc : obsA fb fnL K = valA fnL) : mg "sorted" = none := by
  have c : fb K = true := says_b cc
  exact free_ok X G (fa_at c 15)
theorem t_n_set (X : K.In h) (G : h.Ns mainGlobals mg) (cc : obsA fb fnL K = valA fnL) : mg "set" = none := by
  have c : fb K = true := says_b cc
  exact free_ok X G (fa_at c 16)
theorem t_n_enumerate (X : K.In h) (G : h.Ns mainGlobals mg) (cc : obsA fb fnL K = valA fnL) : mg "enumerate" = none := by
  have c : fb K = true := says_b cc
  exact free_ok X G (fa_at c 17)
theorem t_c_MOST_LETTERS (X : K.In h) (G : h.Ns mainGlobals mg) (cc : obsA fb fnL K = valA fnL) : ∃ u, mg "MOST_LETTERS" = some u ∧ RelV (.int 8) u := by
  have c : fb K = true := says_b cc
  obtain ⟨t, e⟩ := int_ok X G (fa_at c 18); exact ⟨_, e, t, rfl⟩
theorem t_c_FARTHEST (X : K.In h) (G : h.Ns mainGlobals mg) (cc : obsA fb fnL K = valA fnL) : ∃ u, mg "FARTHEST" = some u ∧ RelV (.int 20) u := by
  have c : fb K = true := says_b cc
  obtain ⟨t, e⟩ := int_ok X G (fa_at c 19); exact ⟨_, e, t, rfl⟩
theorem t_c_FEWEST_ENTRIES (X : K.In h) (G : h.Ns mainGlobals mg) (cc : obsA fb fnL K = valA fnL) : ∃ u, mg "FEWEST_ENTRIES" = some u ∧ RelV (.int 2) u := by
  have c : fb K = true := says_b cc
  obtain ⟨t, e⟩ := int_ok X G (fa_at c 20); exact ⟨_, e, t, rfl⟩
theorem t_S_is_integer (X : K.In h) (G : h.Ns mainGlobals mg) (cc : obsA fb fnL K = valA fnL) : Src K mg "is_integer" s_is_integer ["value"] := by
  have c : fb K = true := says_b cc
  obtain ⟨fd, F⟩ := says_d cc 0; obtain ⟨b1, b2⟩ := two_of (ps := ["value"]) F (fun _ _ _ _ _ _ us hl => match us, hl with | [_], _ => rfl) (fun _ _ _ _ _ _ p v e => by cases e; rfl); exact ⟨_, fd, F, glo_ok X G (fa_at c 21), b1, b2⟩
theorem t_S_is_name (X : K.In h) (G : h.Ns mainGlobals mg) (cc : obsA fb fnL K = valA fnL) : Src K mg "is_name" s_is_name ["value"] := by
  have c : fb K = true := says_b cc
  obtain ⟨fd, F⟩ := says_d cc 1; obtain ⟨b1, b2⟩ := two_of (ps := ["value"]) F (fun _ _ _ _ _ _ us hl => match us, hl with | [_], _ => rfl) (fun _ _ _ _ _ _ p v e => by cases e; rfl); exact ⟨_, fd, F, glo_ok X G (fa_at c 22), b1, b2⟩
theorem t_S_is_list (X : K.In h) (G : h.Ns mainGlobals mg) (cc : obsA fb fnL K = valA fnL) : Src K mg "is_list" s_is_list ["value"] := by
  have c : fb K = true := says_b cc
  obtain ⟨fd, F⟩ := says_d cc 2; obtain ⟨b1, b2⟩ := two_of (ps := ["value"]) F (fun _ _ _ _ _ _ us hl => match us, hl with | [_], _ => rfl) (fun _ _ _ _ _ _ p v e => by cases e; rfl); exact ⟨_, fd, F, glo_ok X G (fa_at c 23), b1, b2⟩
theorem t_S_in_order (X : K.In h) (G : h.Ns mainGlobals mg) (cc : obsA fb fnL K = valA fnL) : Src K mg "in_order" s_in_order ["rows"] := by
  have c : fb K = true := says_b cc
  obtain ⟨fd, F⟩ := says_d cc 3; obtain ⟨b1, b2⟩ := two_of (ps := ["rows"]) F (fun _ _ _ _ _ _ us hl => match us, hl with | [_], _ => rfl) (fun _ _ _ _ _ _ p v e => by cases e; rfl); exact ⟨_, fd, F, glo_ok X G (fa_at c 24), b1, b2⟩
theorem t_S_merged (X : K.In h) (G : h.Ns mainGlobals mg) (cc : obsA fb fnL K = valA fnL) : Src K mg "merged" s_merged ["one", "other"] := by
  have c : fb K = true := says_b cc
  obtain ⟨fd, F⟩ := says_d cc 4; obtain ⟨b1, b2⟩ := two_of (ps := ["one", "other"]) F (fun _ _ _ _ _ _ us hl => match us, hl with | [_, _], _ => rfl) (fun _ _ _ _ _ _ p v e => by cases e); exact ⟨_, fd, F, glo_ok X G (fa_at c 25), b1, b2⟩
theorem t_S_is_distance (X : K.In h) (G : h.Ns mainGlobals mg) (cc : obsA fb fnL K = valA fnL) : Src K mg "is_distance" s_is_distance ["value"] := by
  have c : fb K = true := says_b cc
  obtain ⟨fd, F⟩ := says_d cc 5; obtain ⟨b1, b2⟩ := two_of (ps := ["value"]) F (fun _ _ _ _ _ _ us hl => match us, hl with | [_], _ => rfl) (fun _ _ _ _ _ _ p v e => by cases e; rfl); exact ⟨_, fd, F, glo_ok X G (fa_at c 26), b1, b2⟩
theorem t_S_is_entry (X : K.In h) (G : h.Ns mainGlobals mg) (cc : obsA fb fnL K = valA fnL) : Src K mg "is_entry" s_is_entry ["value"] := by
  have c : fb K = true := says_b cc
  obtain ⟨fd, F⟩ := says_d cc 6; obtain ⟨b1, b2⟩ := two_of (ps := ["value"]) F (fun _ _ _ _ _ _ us hl => match us, hl with | [_], _ => rfl) (fun _ _ _ _ _ _ p v e => by cases e; rfl); exact ⟨_, fd, F, glo_ok X G (fa_at c 27), b1, b2⟩
theorem t_S_check_entries (X : K.In h) (G : h.Ns mainGlobals mg) (cc : obsA fb fnL K = valA fnL) : Src K mg "check_entries" s_check_entries ["entries"] := by
  have c : fb K = true := says_b cc
  obtain ⟨fd, F⟩ := says_d cc 7; obtain ⟨b1, b2⟩ := two_of (ps := ["entries"]) F (fun _ _ _ _ _ _ us hl => match us, hl with | [_], _ => rfl) (fun _ _ _ _ _ _ p v e => by cases e; rfl); exact ⟨_, fd, F, glo_ok X G (fa_at c 28), b1, b2⟩
theorem t_S_normed (X : K.In h) (G : h.Ns mainGlobals mg) (cc : obsA fb fnL K = valA fnL) : Src K mg "normed" s_normed ["entries"] := by
  have c : fb K = true := says_b cc
  obtain ⟨fd, F⟩ := says_d cc 8; obtain ⟨b1, b2⟩ := two_of (ps := ["entries"]) F (fun _ _ _ _ _ _ us hl => match us, hl with | [_], _ => rfl) (fun _ _ _ _ _ _ p v e => by cases e; rfl); exact ⟨_, fd, F, glo_ok X G (fa_at c 29), b1, b2⟩
theorem t_S_reach_of (X : K.In h) (G : h.Ns mainGlobals mg) (cc : obsA fb fnL K = valA fnL) : Src K mg "reach_of" s_reach_of ["entries"] := by
  have c : fb K = true := says_b cc
  obtain ⟨fd, F⟩ := says_d cc 9; obtain ⟨b1, b2⟩ := two_of (ps := ["entries"]) F (fun _ _ _ _ _ _ us hl => match us, hl with | [_], _ => rfl) (fun _ _ _ _ _ _ p v e => by cases e; rfl); exact ⟨_, fd, F, glo_ok X G (fa_at c 30), b1, b2⟩
theorem t_S_check_reach (X : K.In h) (G : h.Ns mainGlobals mg) (cc : obsA fb fnL K = valA fnL) : Src K mg "check_reach" s_check_reach ["reach"] := by
  have c : fb K = true := says_b cc
  obtain ⟨fd, F⟩ := says_d cc 10; obtain ⟨b1, b2⟩ := two_of (ps := ["reach"]) F (fun _ _ _ _ _ _ us hl => match us, hl with | [_], _ => rfl) (fun _ _ _ _ _ _ p v e => by cases e; rfl); exact ⟨_, fd, F, glo_ok X G (fa_at c 31), b1, b2⟩
theorem t_S_l_pot (X : K.In h) (G : h.Ns mainGlobals mg) (cc : obsA fb fnL K = valA fnL) : Src K mg "_law_pot" s_l_pot ["_law_script", "_law_k"] := by
  have c : fb K = true := says_b cc
  obtain ⟨fd, F⟩ := says_d cc 11; obtain ⟨b1, b2⟩ := two_of (ps := ["_law_script", "_law_k"]) F (fun _ _ _ _ _ _ us hl => match us, hl with | [_, _], _ => rfl) (fun _ _ _ _ _ _ p v e => by cases e); exact ⟨_, fd, F, glo_ok X G (fa_at c 32), b1, b2⟩
theorem t_S_l_draw (X : K.In h) (G : h.Ns mainGlobals mg) (cc : obsA fb fnL K = valA fnL) : Src K mg "_law_draw" s_l_draw ["_law_pot_here", "_law_many"] := by
  have c : fb K = true := says_b cc
  obtain ⟨fd, F⟩ := says_d cc 12; obtain ⟨b1, b2⟩ := two_of (ps := ["_law_pot_here", "_law_many"]) F (fun _ _ _ _ _ _ us hl => match us, hl with | [_, _], _ => rfl) (fun _ _ _ _ _ _ p v e => by cases e); exact ⟨_, fd, F, glo_ok X G (fa_at c 33), b1, b2⟩
theorem t_S_l_among (X : K.In h) (G : h.Ns mainGlobals mg) (cc : obsA fb fnL K = valA fnL) : Src K mg "_law_among" s_l_among ["_law_pot_here", "_law_some"] := by
  have c : fb K = true := says_b cc
  obtain ⟨fd, F⟩ := says_d cc 13; obtain ⟨b1, b2⟩ := two_of (ps := ["_law_pot_here", "_law_some"]) F (fun _ _ _ _ _ _ us hl => match us, hl with | [_, _], _ => rfl) (fun _ _ _ _ _ _ p v e => by cases e); exact ⟨_, fd, F, glo_ok X G (fa_at c 34), b1, b2⟩
theorem t_S_l_names (X : K.In h) (G : h.Ns mainGlobals mg) (cc : obsA fb fnL K = valA fnL) : Src K mg "_law_names" s_l_names ["_law_pot_here", "_law_many"] := by
  have c : fb K = true := says_b cc
  obtain ⟨fd, F⟩ := says_d cc 14; obtain ⟨b1, b2⟩ := two_of (ps := ["_law_pot_here", "_law_many"]) F (fun _ _ _ _ _ _ us hl => match us, hl with | [_, _], _ => rfl) (fun _ _ _ _ _ _ p v e => by cases e); exact ⟨_, fd, F, glo_ok X G (fa_at c 35), b1, b2⟩
theorem t_S_l_normed (X : K.In h) (G : h.Ns mainGlobals mg) (cc : obsA fb fnL K = valA fnL) : Src K mg "_law_normed" s_l_normed ["_law_some"] := by
  have c : fb K = true := says_b cc
  obtain ⟨fd, F⟩ := says_d cc 15; obtain ⟨b1, b2⟩ := two_of (ps := ["_law_some"]) F (fun _ _ _ _ _ _ us hl => match us, hl with | [_], _ => rfl) (fun _ _ _ _ _ _ p v e => by cases e; rfl); exact ⟨_, fd, F, glo_ok X G (fa_at c 36), b1, b2⟩
theorem t_S_l_entries (X : K.In h) (G : h.Ns mainGlobals mg) (cc : obsA fb fnL K = valA fnL) : Src K mg "_law_entries" s_l_entries ["_law_pot_here", "_law_tags"] := by
  have c : fb K = true := says_b cc
  obtain ⟨fd, F⟩ := says_d cc 16; obtain ⟨b1, b2⟩ := two_of (ps := ["_law_pot_here", "_law_tags"]) F (fun _ _ _ _ _ _ us hl => match us, hl with | [_, _], _ => rfl) (fun _ _ _ _ _ _ p v e => by cases e); exact ⟨_, fd, F, glo_ok X G (fa_at c 37), b1, b2⟩
theorem t_S_l_mixed (X : K.In h) (G : h.Ns mainGlobals mg) (cc : obsA fb fnL K = valA fnL) : Src K mg "_law_mixed" s_l_mixed ["_law_pot_here", "_law_some"] := by
  have c : fb K = true := says_b cc
  obtain ⟨fd, F⟩ := says_d cc 17; obtain ⟨b1, b2⟩ := two_of (ps := ["_law_pot_here", "_law_some"]) F (fun _ _ _ _ _ _ us hl => match us, hl with | [_, _], _ => rfl) (fun _ _ _ _ _ _ p v e => by cases e); exact ⟨_, fd, F, glo_ok X G (fa_at c 38), b1, b2⟩
theorem t_S_l_passed (X : K.In h) (G : h.Ns mainGlobals mg) (cc : obsA fb fnL K = valA fnL) : Src K mg "_law_passed" s_l_passed ["_law_pot_here", "_law_some"] := by
  have c : fb K = true := says_b cc
  obtain ⟨fd, F⟩ := says_d cc 18; obtain ⟨b1, b2⟩ := two_of (ps := ["_law_pot_here", "_law_some"]) F (fun _ _ _ _ _ _ us hl => match us, hl with | [_, _], _ => rfl) (fun _ _ _ _ _ _ p v e => by cases e); exact ⟨_, fd, F, glo_ok X G (fa_at c 39), b1, b2⟩
theorem t_S_l_kind (X : K.In h) (G : h.Ns mainGlobals mg) (cc : obsA fb fnL K = valA fnL) : Src K mg "_law_kind" s_l_kind ["_law_some"] := by
  have c : fb K = true := says_b cc
  obtain ⟨fd, F⟩ := says_d cc 19; obtain ⟨b1, b2⟩ := two_of (ps := ["_law_some"]) F (fun _ _ _ _ _ _ us hl => match us, hl with | [_], _ => rfl) (fun _ _ _ _ _ _ p v e => by cases e; rfl); exact ⟨_, fd, F, glo_ok X G (fa_at c 40), b1, b2⟩
theorem t_S_l_far (X : K.In h) (G : h.Ns mainGlobals mg) (cc : obsA fb fnL K = valA fnL) : Src K mg "_law_far" s_l_far ["_law_some"] := by
  have c : fb K = true := says_b cc
  obtain ⟨fd, F⟩ := says_d cc 20; obtain ⟨b1, b2⟩ := two_of (ps := ["_law_some"]) F (fun _ _ _ _ _ _ us hl => match us, hl with | [_], _ => rfl) (fun _ _ _ _ _ _ p v e => by cases e; rfl); exact ⟨_, fd, F, glo_ok X G (fa_at c 41), b1, b2⟩
theorem t_S_l_told_right (X : K.In h) (G : h.Ns mainGlobals mg) (cc : obsA fb fnL K = valA fnL) : Src K mg "_law_told_right" s_l_told_right ["_law_made", "_law_due"] := by
  have c : fb K = true := says_b cc
  obtain ⟨fd, F⟩ := says_d cc 21; obtain ⟨b1, b2⟩ := two_of (ps := ["_law_made", "_law_due"]) F (fun _ _ _ _ _ _ us hl => match us, hl with | [_, _], _ => rfl) (fun _ _ _ _ _ _ p v e => by cases e); exact ⟨_, fd, F, glo_ok X G (fa_at c 42), b1, b2⟩
theorem t_S_l_among_right (X : K.In h) (G : h.Ns mainGlobals mg) (cc : obsA fb fnL K = valA fnL) : Src K mg "_law_among_right" s_l_among_right ["_law_pot_here", "_law_made", "_law_due"] := by
  have c : fb K = true := says_b cc
  obtain ⟨fd, F⟩ := says_d cc 22; obtain ⟨b1, b2⟩ := two_of (ps := ["_law_pot_here", "_law_made", "_law_due"]) F (fun _ _ _ _ _ _ us hl => match us, hl with | [_, _, _], _ => rfl) (fun _ _ _ _ _ _ p v e => by cases e); exact ⟨_, fd, F, glo_ok X G (fa_at c 43), b1, b2⟩
theorem t_S_l_turned_right (X : K.In h) (G : h.Ns mainGlobals mg) (cc : obsA fb fnL K = valA fnL) : Src K mg "_law_turned_right" s_l_turned_right ["_law_made", "_law_due"] := by
  have c : fb K = true := says_b cc
  obtain ⟨fd, F⟩ := says_d cc 23; obtain ⟨b1, b2⟩ := two_of (ps := ["_law_made", "_law_due"]) F (fun _ _ _ _ _ _ us hl => match us, hl with | [_, _], _ => rfl) (fun _ _ _ _ _ _ p v e => by cases e); exact ⟨_, fd, F, glo_ok X G (fa_at c 44), b1, b2⟩
theorem t_S_l_right (X : K.In h) (G : h.Ns mainGlobals mg) (cc : obsA fb fnL K = valA fnL) : Src K mg "_law_right" s_l_right ["_law_pot_here"] := by
  have c : fb K = true := says_b cc
  obtain ⟨fd, F⟩ := says_d cc 24; obtain ⟨b1, b2⟩ := two_of (ps := ["_law_pot_here"]) F (fun _ _ _ _ _ _ us hl => match us, hl with | [_], _ => rfl) (fun _ _ _ _ _ _ p v e => by cases e; rfl); exact ⟨_, fd, F, glo_ok X G (fa_at c 45), b1, b2⟩
theorem t_S_law (X : K.In h) (G : h.Ns mainGlobals mg) (cc : obsA fb fnL K = valA fnL) : Src K mg "law" s_law ["_law_script"] := by
  have c : fb K = true := says_b cc
  obtain ⟨fd, F⟩ := says_d cc 25; obtain ⟨b1, b2⟩ := two_of (ps := ["_law_script"]) F (fun _ _ _ _ _ _ us hl => match us, hl with | [_], _ => rfl) (fun _ _ _ _ _ _ p v e => by cases e; rfl); exact ⟨_, fd, F, glo_ok X G (fa_at c 46), b1, b2⟩
theorem t_g_Kind (X : K.In h) (G : h.Ns mainGlobals mg) (cc : obsA fb fnL K = valA fnL) : mg "Kind" = some (.ref (kc K)) := by
  have c : fb K = true := says_b cc
  exact glo_ok X G (fa_at c 47)
theorem t_cls (X : K.In h) (G : h.Ns mainGlobals mg) (cc : obsA fb fnL K = valA fnL) : Cls K (kc K) := by
  have c : fb K = true := says_b cc
  exact cls_ok (x := "Kind") (fa_at c 48)
theorem t_maker (X : K.In h) (G : h.Ns mainGlobals mg) (cc : obsA fb fnL K = valA fnL) : Mk K (kc K) (He.ma K (kc K) "__init__") := by
  have c : fb K = true := says_b cc
  exact mkr_ok (x := "Kind") (fa_at c 49)
theorem t_cr (X : K.In h) (G : h.Ns mainGlobals mg) (cc : obsA fb fnL K = valA fnL) : ∃ mc, ClX.CRead K (kc K) mc ∧ (∃ p, CSta K (kc K) mc "of" p (Kd.st K "of")) ∧ (∃ u, ClX.CVal K (kc K) mc "MOST_ENTRIES" (.int 6) u) ∧ (∃ u, ClX.CVal K (kc K) mc "MOST_REACH" (.int 3) u) := by
  have c : fb K = true := says_b cc
  obtain ⟨s1, s2, s3⟩ := cst_ok (C := kc K) (m := "of") (fb_at c 2)
  exact ⟨_, crd_ok (fb_at c 1), ⟨_, s1, s2, s3⟩, cvi_ok (fb_at c 3), cvi_ok (fb_at c 4)⟩
theorem t_m_entries (X : K.In h) (G : h.Ns mainGlobals mg) (cc : obsA fb fnL K = valA fnL) : Meth K (kc K) "entries" (He.ma K (kc K) "entries") := by
  have c : fb K = true := says_b cc
  exact meth_ok (x := "Kind") (m := "entries") (fa_at c 50)
theorem t_m_names (X : K.In h) (G : h.Ns mainGlobals mg) (cc : obsA fb fnL K = valA fnL) : Meth K (kc K) "names" (He.ma K (kc K) "names") := by
  have c : fb K = true := says_b cc
  exact meth_ok (x := "Kind") (m := "names") (fa_at c 51)
theorem t_m_mirrored (X : K.In h) (G : h.Ns mainGlobals mg) (cc : obsA fb fnL K = valA fnL) : Meth K (kc K) "mirrored" (He.ma K (kc K) "mirrored") := by
  have c : fb K = true := says_b cc
  exact meth_ok (x := "Kind") (m := "mirrored") (fa_at c 52)
theorem t_m_turned (X : K.In h) (G : h.Ns mainGlobals mg) (cc : obsA fb fnL K = valA fnL) : Meth K (kc K) "turned" (He.ma K (kc K) "turned") := by
  have c : fb K = true := says_b cc
  exact meth_ok (x := "Kind") (m := "turned") (fa_at c 53)
theorem t_p_reach (X : K.In h) (G : h.Ns mainGlobals mg) (cc : obsA fb fnL K = valA fnL) : ∃ p, PropOf K (kc K) "reach" p (Kd.pr K "reach") := by
  have c : fb K = true := says_b cc
  exact ⟨_, prp_ok (C := kc K) (f := "reach") (fb_at c 5)⟩
theorem t_p_is_flat (X : K.In h) (G : h.Ns mainGlobals mg) (cc : obsA fb fnL K = valA fnL) : ∃ p, PropOf K (kc K) "is_flat" p (Kd.pr K "is_flat") := by
  have c : fb K = true := says_b cc
  exact ⟨_, prp_ok (C := kc K) (f := "is_flat") (fb_at c 6)⟩
theorem t_f___len__ (X : K.In h) (G : h.Ns mainGlobals mg) (cc : obsA fb fnL K = valA fnL) : PySem.W.findIn K (.ref (kc K)) "__len__" = some (some (.ref (He.ma K (kc K) "__len__"))) := by
  have c : fb K = true := says_b cc
  exact (dun_ok (C := kc K) (m := "__len__") (fb_at c 7)).1
theorem t_i___len__ (X : K.In h) (G : h.Ns mainGlobals mg) (cc : obsA fb fnL K = valA fnL) : PySem.W.isFn K (.ref (He.ma K (kc K) "__len__")) = true := by
  have c : fb K = true := says_b cc
  exact (dun_ok (C := kc K) (m := "__len__") (fb_at c 7)).2
theorem t_f___contains__ (X : K.In h) (G : h.Ns mainGlobals mg) (cc : obsA fb fnL K = valA fnL) : PySem.W.findIn K (.ref (kc K)) "__contains__" = some (some (.ref (He.ma K (kc K) "__contains__"))) := by
  have c : fb K = true := says_b cc
  exact (dun_ok (C := kc K) (m := "__contains__") (fb_at c 8)).1
theorem t_i___contains__ (X : K.In h) (G : h.Ns mainGlobals mg) (cc : obsA fb fnL K = valA fnL) : PySem.W.isFn K (.ref (He.ma K (kc K) "__contains__")) = true := by
  have c : fb K = true := says_b cc
  exact (dun_ok (C := kc K) (m := "__contains__") (fb_at c 8)).2
theorem t_f___eq__ (X : K.In h) (G : h.Ns mainGlobals mg) (cc : obsA fb fnL K = valA fnL) : PySem.W.findIn K (.ref (kc K)) "__eq__" = some (some (.ref (He.ma K (kc K) "__eq__"))) := by
  have c : fb K = true := says_b cc
  exact (dun_ok (C := kc K) (m := "__eq__") (fb_at c 9)).1
theorem t_i___eq__ (X : K.In h) (G : h.Ns mainGlobals mg) (cc : obsA fb fnL K = valA fnL) : PySem.W.isFn K (.ref (He.ma K (kc K) "__eq__")) = true := by
  have c : fb K = true := says_b cc
  exact (dun_ok (C := kc K) (m := "__eq__") (fb_at c 9)).2
theorem t_f___repr__ (X : K.In h) (G : h.Ns mainGlobals mg) (cc : obsA fb fnL K = valA fnL) : PySem.W.findIn K (.ref (kc K)) "__repr__" = some (some (.ref (He.ma K (kc K) "__repr__"))) := by
  have c : fb K = true := says_b cc
  exact (dun_ok (C := kc K) (m := "__repr__") (fb_at c 10)).1
theorem t_i___repr__ (X : K.In h) (G : h.Ns mainGlobals mg) (cc : obsA fb fnL K = valA fnL) : PySem.W.isFn K (.ref (He.ma K (kc K) "__repr__")) = true := by
  have c : fb K = true := says_b cc
  exact (dun_ok (C := kc K) (m := "__repr__") (fb_at c 10)).2
theorem t_ne (X : K.In h) (G : h.Ns mainGlobals mg) (cc : obsA fb fnL K = valA fnL) : PySem.W.findIn K (.ref (kc K)) "__ne__" = some (some (.builtin "object.__ne__")) := by
  have c : fb K = true := says_b cc
  exact eqO_ok (fb_at c 11)
theorem t_mo (X : K.In h) (G : h.Ns mainGlobals mg) (cc : obsA fb fnL K = valA fnL) : PySem.W.mroIn K (kc K) (.type "object") = some true := by
  have c : fb K = true := says_b cc
  exact of_decide_eq_true (fb_at c 12)
theorem t_no_entries (X : K.In h) (G : h.Ns mainGlobals mg) (cc : obsA fb fnL K = valA fnL) : NoAttr K (kc K) "_entries" := by
  have c : fb K = true := says_b cc
  exact noat_ok (x := "Kind") (f := "_entries") (fa_at c 54)
theorem t_no_reach (X : K.In h) (G : h.Ns mainGlobals mg) (cc : obsA fb fnL K = valA fnL) : NoAttr K (kc K) "_reach" := by
  have c : fb K = true := says_b cc
  exact noat_ok (x := "Kind") (f := "_reach") (fa_at c 55)
theorem t_M_of (X : K.In h) (G : h.Ns mainGlobals mg) (cc : obsA fb fnL K = valA fnL) : Ms K "of" "Kind.of" s_Kind_of (Kd.st K "of") ["entries"] := by
  have c : fb K = true := says_b cc
  obtain ⟨fd, F⟩ := says_d cc 26; obtain ⟨b1, b2⟩ := two_of (ps := ["entries"]) F (fun _ _ _ _ _ _ us hl => match us, hl with | [_], _ => rfl) (fun _ _ _ _ _ _ p v e => by cases e; rfl); exact ⟨fd, F, b1, b2⟩
theorem t_M_reach (X : K.In h) (G : h.Ns mainGlobals mg) (cc : obsA fb fnL K = valA fnL) : Ms K "reach" "Kind.reach" s_Kind_reach (Kd.pr K "reach") ["self"] := by
  have c : fb K = true := says_b cc
  obtain ⟨fd, F⟩ := says_d cc 27; obtain ⟨b1, b2⟩ := two_of (ps := ["self"]) F (fun _ _ _ _ _ _ us hl => match us, hl with | [_], _ => rfl) (fun _ _ _ _ _ _ p v e => by cases e; rfl); exact ⟨fd, F, b1, b2⟩
theorem t_M_is_flat (X : K.In h) (G : h.Ns mainGlobals mg) (cc : obsA fb fnL K = valA fnL) : Ms K "is_flat" "Kind.is_flat" s_Kind_is_flat (Kd.pr K "is_flat") ["self"] := by
  have c : fb K = true := says_b cc
  obtain ⟨fd, F⟩ := says_d cc 28; obtain ⟨b1, b2⟩ := two_of (ps := ["self"]) F (fun _ _ _ _ _ _ us hl => match us, hl with | [_], _ => rfl) (fun _ _ _ _ _ _ p v e => by cases e; rfl); exact ⟨fd, F, b1, b2⟩
theorem t_M_entries (X : K.In h) (G : h.Ns mainGlobals mg) (cc : obsA fb fnL K = valA fnL) : Ms K "entries" "Kind.entries" s_Kind_entries (He.ma K (kc K) "entries") ["self"] := by
  have c : fb K = true := says_b cc
  obtain ⟨fd, F⟩ := says_d cc 29; obtain ⟨b1, b2⟩ := two_of (ps := ["self"]) F (fun _ _ _ _ _ _ us hl => match us, hl with | [_], _ => rfl) (fun _ _ _ _ _ _ p v e => by cases e; rfl); exact ⟨fd, F, b1, b2⟩
theorem t_M_names (X : K.In h) (G : h.Ns mainGlobals mg) (cc : obsA fb fnL K = valA fnL) : Ms K "names" "Kind.names" s_Kind_names (He.ma K (kc K) "names") ["self"] := by
  have c : fb K = true := says_b cc
  obtain ⟨fd, F⟩ := says_d cc 30; obtain ⟨b1, b2⟩ := two_of (ps := ["self"]) F (fun _ _ _ _ _ _ us hl => match us, hl with | [_], _ => rfl) (fun _ _ _ _ _ _ p v e => by cases e; rfl); exact ⟨fd, F, b1, b2⟩
theorem t_M_mirrored (X : K.In h) (G : h.Ns mainGlobals mg) (cc : obsA fb fnL K = valA fnL) : Ms K "mirrored" "Kind.mirrored" s_Kind_mirrored (He.ma K (kc K) "mirrored") ["self"] := by
  have c : fb K = true := says_b cc
  obtain ⟨fd, F⟩ := says_d cc 31; obtain ⟨b1, b2⟩ := two_of (ps := ["self"]) F (fun _ _ _ _ _ _ us hl => match us, hl with | [_], _ => rfl) (fun _ _ _ _ _ _ p v e => by cases e; rfl); exact ⟨fd, F, b1, b2⟩
theorem t_M_turned (X : K.In h) (G : h.Ns mainGlobals mg) (cc : obsA fb fnL K = valA fnL) : Ms K "turned" "Kind.turned" s_Kind_turned (He.ma K (kc K) "turned") ["self"] := by
  have c : fb K = true := says_b cc
  obtain ⟨fd, F⟩ := says_d cc 32; obtain ⟨b1, b2⟩ := two_of (ps := ["self"]) F (fun _ _ _ _ _ _ us hl => match us, hl with | [_], _ => rfl) (fun _ _ _ _ _ _ p v e => by cases e; rfl); exact ⟨fd, F, b1, b2⟩
theorem t_M___len__ (X : K.In h) (G : h.Ns mainGlobals mg) (cc : obsA fb fnL K = valA fnL) : Ms K "__len__" "Kind.__len__" s_Kind___len (He.ma K (kc K) "__len__") ["self"] := by
  have c : fb K = true := says_b cc
  obtain ⟨fd, F⟩ := says_d cc 33; obtain ⟨b1, b2⟩ := two_of (ps := ["self"]) F (fun _ _ _ _ _ _ us hl => match us, hl with | [_], _ => rfl) (fun _ _ _ _ _ _ p v e => by cases e; rfl); exact ⟨fd, F, b1, b2⟩
theorem t_M___contains__ (X : K.In h) (G : h.Ns mainGlobals mg) (cc : obsA fb fnL K = valA fnL) : Ms K "__contains__" "Kind.__contains__" s_Kind___contains (He.ma K (kc K) "__contains__") ["self", "x"] := by
  have c : fb K = true := says_b cc
  obtain ⟨fd, F⟩ := says_d cc 34; obtain ⟨b1, b2⟩ := two_of (ps := ["self", "x"]) F (fun _ _ _ _ _ _ us hl => match us, hl with | [_, _], _ => rfl) (fun _ _ _ _ _ _ p v e => by cases e); exact ⟨fd, F, b1, b2⟩
theorem t_M___eq__ (X : K.In h) (G : h.Ns mainGlobals mg) (cc : obsA fb fnL K = valA fnL) : Ms K "__eq__" "Kind.__eq__" s_Kind___eq (He.ma K (kc K) "__eq__") ["self", "other"] := by
  have c : fb K = true := says_b cc
  obtain ⟨fd, F⟩ := says_d cc 35; obtain ⟨b1, b2⟩ := two_of (ps := ["self", "other"]) F (fun _ _ _ _ _ _ us hl => match us, hl with | [_, _], _ => rfl) (fun _ _ _ _ _ _ p v e => by cases e); exact ⟨fd, F, b1, b2⟩
theorem t_M___repr__ (X : K.In h) (G : h.Ns mainGlobals mg) (cc : obsA fb fnL K = valA fnL) : Ms K "__repr__" "Kind.__repr__" s_Kind___repr (He.ma K (kc K) "__repr__") ["self"] := by
  have c : fb K = true := says_b cc
  obtain ⟨fd, F⟩ := says_d cc 36; obtain ⟨b1, b2⟩ := two_of (ps := ["self"]) F (fun _ _ _ _ _ _ us hl => match us, hl with | [_], _ => rfl) (fun _ _ _ _ _ _ p v e => by cases e; rfl); exact ⟨fd, F, b1, b2⟩
theorem t_M___init__ (X : K.In h) (G : h.Ns mainGlobals mg) (cc : obsA fb fnL K = valA fnL) : ∃ fd, Fun K "__init__" "Kind.__init__" s_Kind___init (He.ma K (kc K) "__init__") fd := by
  have c : fb K = true := says_b cc
  exact says_d cc 37
theorem t_kt (X : K.In h) (G : h.Ns mainGlobals mg) (cc : obsA fb fnL K = valA fnL) : ∀ n ∈ Ty7, PySem.W.kitOne K (.type n) (.ref (kc K)) = some false ∧ PySem.W.kitOne K (.ref (kc K)) (.type n) = some false ∧ PySem.W.notFirst K (kc K) (.type n) = true := by
  have c : fb K = true := says_b cc
  exact kt_ok (fb_at c 13)
theorem t_kk (X : K.In h) (G : h.Ns mainGlobals mg) (cc : obsA fb fnL K = valA fnL) : PySem.W.kitOne K (.ref (kc K)) (.ref (kc K)) = some true := by
  have c : fb K = true := says_b cc
  exact of_decide_eq_true (fb_at c 14)
theorem t_ca (X : K.In h) (G : h.Ns mainGlobals mg) (cc : obsA fb fnL K = valA fnL) : PySem.W.findIn K (.ref (kc K)) "__class__" = some (some (.builtin "object.__class__")) := by
  have c : fb K = true := says_b cc
  exact eqO_ok (fb_at c 15)
theorem t_cn (X : K.In h) (G : h.Ns mainGlobals mg) (cc : obsA fb fnL K = valA fnL) : PySem.W.specialIn K (.builtin "object.__class__") "__get__" = some (some (.builtin "getset_descriptor.__get__")) := by
  have c : fb K = true := says_b cc
  exact of_decide_eq_true (fb_at c 16)
theorem t_ct (X : K.In h) (G : h.Ns mainGlobals mg) (cc : obsA fb fnL K = valA fnL) : PySem.W.takesIn K (.builtin "object.__class__") = some true := by
  have c : fb K = true := says_b cc
  exact of_decide_eq_true (fb_at c 17)
theorem txt (X : K.In h) (G : h.Ns mainGlobals mg) (cc : obsA fb fnL K = valA fnL) : Txt K mg := {
    n_len := t_n_len X G cc,
    n_int := t_n_int X G cc,
    n_abs := t_n_abs X G cc,
    n_max := t_n_max X G cc,
    n_min := t_n_min X G cc,
    n_divmod := t_n_divmod X G cc,
    n_isinstance := t_n_isinstance X G cc,
    n_bool := t_n_bool X G cc,
    n_str := t_n_str X G cc,
    n_repr := t_n_repr X G cc,
    n_range := t_n_range X G cc,
    n_all := t_n_all X G cc,
    n_any := t_n_any X G cc,
    n_tuple := t_n_tuple X G cc,
    n_list := t_n_list X G cc,
    n_sorted := t_n_sorted X G cc,
    n_set := t_n_set X G cc,
    n_enumerate := t_n_enumerate X G cc,
    c_MOST_LETTERS := t_c_MOST_LETTERS X G cc,
    c_FARTHEST := t_c_FARTHEST X G cc,
    c_FEWEST_ENTRIES := t_c_FEWEST_ENTRIES X G cc,
    S_is_integer := t_S_is_integer X G cc,
    S_is_name := t_S_is_name X G cc,
    S_is_list := t_S_is_list X G cc,
    S_in_order := t_S_in_order X G cc,
    S_merged := t_S_merged X G cc,
    S_is_distance := t_S_is_distance X G cc,
    S_is_entry := t_S_is_entry X G cc,
    S_check_entries := t_S_check_entries X G cc,
    S_normed := t_S_normed X G cc,
    S_reach_of := t_S_reach_of X G cc,
    S_check_reach := t_S_check_reach X G cc,
    S_l_pot := t_S_l_pot X G cc,
    S_l_draw := t_S_l_draw X G cc,
    S_l_among := t_S_l_among X G cc,
    S_l_names := t_S_l_names X G cc,
    S_l_normed := t_S_l_normed X G cc,
    S_l_entries := t_S_l_entries X G cc,
    S_l_mixed := t_S_l_mixed X G cc,
    S_l_passed := t_S_l_passed X G cc,
    S_l_kind := t_S_l_kind X G cc,
    S_l_far := t_S_l_far X G cc,
    S_l_told_right := t_S_l_told_right X G cc,
    S_l_among_right := t_S_l_among_right X G cc,
    S_l_turned_right := t_S_l_turned_right X G cc,
    S_l_right := t_S_l_right X G cc,
    S_law := t_S_law X G cc,
    g_Kind := t_g_Kind X G cc,
    cls := t_cls X G cc,
    maker := t_maker X G cc,
    cr := t_cr X G cc,
    m_entries := t_m_entries X G cc,
    m_names := t_m_names X G cc,
    m_mirrored := t_m_mirrored X G cc,
    m_turned := t_m_turned X G cc,
    p_reach := t_p_reach X G cc,
    p_is_flat := t_p_is_flat X G cc,
    f___len__ := t_f___len__ X G cc,
    i___len__ := t_i___len__ X G cc,
    f___contains__ := t_f___contains__ X G cc,
    i___contains__ := t_i___contains__ X G cc,
    f___eq__ := t_f___eq__ X G cc,
    i___eq__ := t_i___eq__ X G cc,
    f___repr__ := t_f___repr__ X G cc,
    i___repr__ := t_i___repr__ X G cc,
    ne := t_ne X G cc,
    mo := t_mo X G cc,
    no_entries := t_no_entries X G cc,
    no_reach := t_no_reach X G cc,
    M_of := t_M_of X G cc,
    M_reach := t_M_reach X G cc,
    M_is_flat := t_M_is_flat X G cc,
    M_entries := t_M_entries X G cc,
    M_names := t_M_names X G cc,
    M_mirrored := t_M_mirrored X G cc,
    M_turned := t_M_turned X G cc,
    M___len__ := t_M___len__ X G cc,
    M___contains__ := t_M___contains__ X G cc,
    M___eq__ := t_M___eq__ X G cc,
    M___repr__ := t_M___repr__ X G cc,
    M___init__ := t_M___init__ X G cc,
    kt := t_kt X G cc,
    kk := t_kk X G cc,
    ca := t_ca X G cc,
    cn := t_cn X G cc,
    ct := t_ct X G cc }
end
end K11

set_option Elab.async false
set_option linter.all false
set_option maxRecDepth 100000
set_option maxHeartbeats 0
open PySem PySem.W PySem.Calls PyProof.Rows
theorem PySem.Challenge.cw_twoeach_k11_kinds_told_holds : PySem.Challenge.rw_twoeach_k11_kinds_told.Holds := by
  w_on; o_law
  refine HandSHeadRun.head_any (r := OpenLaw.row PySem.Challenge.rw_twoeach_k11_kinds_told) (q := view (OpenLaw.row PySem.Challenge.rw_twoeach_k11_kinds_told).prog [42]) (H := K11.hk) (ob := K11.ob) (M := 9600) (loose := K11.looseL) (d := HandSHeadRun.topDef (OpenLaw.row PySem.Challenge.rw_twoeach_k11_kinds_told).prog 42) (kwd := []) K11.ob_eq
    (by kernel_rfl) (fun s => by kernel_rfl) K11.run (by kernel_rfl) (by kernel_rfl) (by kernel_rfl) (by rfl) (by first | assumption | decide +kernel) (by decide +kernel) ⟨rfl, rfl, rfl, rfl, rfl, by decide +kernel⟩ ?hw ?hc
  case hw => w_witness2
  case hc =>
    refine Hd.walk_GE (l := PySem.Challenge.rw_twoeach_k11_kinds_told) (n := 63) (k := 13) (x := "_law_script") rfl (by decide) (by kernel_rfl) ⟨rfl, by decide, by decide⟩ ?F
    intro w mg fa h Y G hmg0
    obtain ⟨K, KX, c⟩ := Y
    have hmg : mg ("law" : PySem.Str) = some (.ref fa) := by
      have e : (HandSHeadRun.topDef (OpenLaw.row PySem.Challenge.rw_twoeach_k11_kinds_told).prog 42).name = ("law" : PySem.Str) := by kernel_rfl
      rw [← e]
      exact hmg0
    obtain ⟨fd, F⟩ := Ha.says_d c 25
    have gl := He.glo_ok (x := "law") KX G (K11.fa_at (Ha.says_b c) 46)
    have ea : fa = He.ga K "law" := by
      have z := hmg.symm.trans gl
      cases z
      rfl
    obtain ⟨b1, b2⟩ := Ha.two_of (ps := ["_law_script"]) F (fun _ _ _ _ _ _ us hl => match us, hl with | [_], _ => rfl) (fun _ _ _ _ _ _ p v e => by cases e; rfl)
    refine ⟨K, fd, K11.spLaw K, KX, fun s u => ?_, fun H a ns hl _ hS => ⟨a, ns, rfl, hS, hl, fun _ _ => rfl⟩, fun base kb nb => ?_⟩
    · obtain ⟨oc, od, kV, doc, pm, an, cdv, ct, osl, rfl, lk, hcd⟩ := F.ex
      exact BindsTo.of_eq (by rfl)
    · subst ea
      exact K11.g_law (K11.txt KX G c) F

import PyProof.Rows.All
import Wide.All
import OpenK.AllK
import Wide.FinOn
import HandS.ForMost
import HandS.WideBits
import HandS.Flow
import HandS.Exc
import KE.KExcInit
import HandS.ExcInit
import HandS.ExcIs
import HandS.IsInst
import HandS.Star
import HandS.Walk
import HandS.FStr
import HandS.Property
import HandS.ClsMeth
import OpenK.KOps
import PyProof.InstNe
import PyProof.ReprHeadsEmpty
import HandS.SortOrd
import HandS.TupLe
import HandS.Set
import HandS.SetFor
import HandS.Strs
import HandS.SortRule
import PyProof.ReprHeadsTuple
import KE.GoesMore
import HandS.Deep
import KE.GoesEnum
import HandS.TryMany
import HandS.WordsExc
import HandS.ExcValue
import HandS.Lambda
import HandS.HeadHook4
import PySem.Challenge.RW_twoeach_k12_kinds_held_and_renamed
import HandS.StrMore
import HandS.Conv
import HandS.DictComp
import HandS.Text
import HandS.Style
import KE.KDictPairs
import KE.KDictCopyH
import HandS.Head0
import HandS.Head1
import HandS.Head2
import HandS.HeadEnd
import HandS.HeadHook1
import HandS.HeadHook2
import HandS.EndTab
import HandS.ListItems
import HandS.More
set_option Elab.async false
set_option linter.all false
set_option maxRecDepth 100000
namespace Lay
open PySem L2 PySem.Spec PyProof.Rows
/-! ### a def's promise where it is known that no text of an object is being made (for repr) -/
structure FnG (P : Program) (w : World) (K : PySem.W.Frag) (mg : Str → Option Value) (base : Heap) (CX : CXT) (k : Nat) (f : Addr) (fd : FuncData)
    (ps : List Str) (sp : Sp) : Prop where
  len : ∀ vs H Q E, sp vs H Q E → vs.length = ps.length
  run : ∀ (A : Around) (outer : List Env) (s : Shared) (H : Hp) (args : Args) (us : List Value) (vs : List V) (Q : VK) (E : XK),
    Room k A → A.guards = some [] → Env0 P w K mg base A outer s H → BindsTo s fd args (ps.zip us) → Vals vs us → sp vs H Q E →
    codeAny (model P w) A (.call (.ref f) args) (CR CX outer P w H s Q E) s
section
variable {CX : CXT} {P : Program} {w : World} {K : PySem.W.Frag} {mg : Str → Option Value} {base : Heap} {k : Nat} {f : Addr} {fd : FuncData} {ps : List Str} {sp sp' : Sp}
theorem FnG.of (F : FnOk P w K mg base CX k f fd ps sp) : FnG P w K mg base CX k f fd ps sp :=
  ⟨F.len, fun A outer s H args us vs Q E hr _ => F.run A outer s H args us vs Q E hr⟩
theorem FnG.imp (F : FnG P w K mg base CX k f fd ps sp) (h : ∀ vs H Q E, sp' vs H Q E → sp vs H Q E) : FnG P w K mg base CX k f fd ps sp' :=
  ⟨fun vs H Q E z => F.len vs H Q E (h _ _ _ _ z), fun A outer s H args us vs Q E hr hg he hb hv z => F.run A outer s H args us vs Q E hr hg he hb hv (h _ _ _ _ z)⟩
theorem FnG.mono {j : Nat} (F : FnG P w K mg base CX j f fd ps sp) (h : j ≤ k) : FnG P w K mg base CX k f fd ps sp :=
  ⟨F.len, fun A outer s H args us vs Q E hr => F.run A outer s H args us vs Q E (hr.mono h)⟩
/-- a def of the text, by its body -/
theorem fnG_of {name qual : Str} {params : Arguments} {body : List Stmt} {scope : Scope} {dV kV doc pm cdv ct oc : Value} {an od : Option Addr}
    {osl : Array (Option Value)} {N : List Str} (lk : K.lookup f = some ⟨oc, od, .func (PySem.W.fnOf name qual params body scope dV kV doc pm an cdv ct), osl⟩)
    (hcd : PySem.W.codeIn K cdv qual = true) (S : FnScope N ps scope) (len : ∀ vs H Q E, sp vs H Q E → vs.length = ps.length)
    (hbody : ∀ (A : Around) (outer : List Env) (s : Shared) (H : Hp) (vs : List V) (Q : VK) (E : XK), Room k (A.deeper (envOfC qual scope s.heap.objs.size f cdv)) →
      A.guards = some [] → sp vs H Q E →
      ∃ t, PSs (cxOf CX P w K mg base N qual scope f cdv A outer s H E) body t ∧ t { nx := fun _ H' => Q .non H', rt := Q } (start N vs) H) :
    FnG P w K mg base CX (k + 1) f (PySem.W.fnOf name qual params body scope dV kV doc pm an cdv ct) ps sp := by
  refine ⟨len, fun A outer s H args us vs Q E hr hg e0 hb r hsp => ?_⟩
  have hl := len _ _ _ _ hsp
  have kx : K.In s.heap := e0.mod.kin.keeps fun b o e => (e0.bs b o e).1
  have nl : s.heap.NoLimit := e0.mod.nolimit.keeps fun b o e => (e0.bs b o e).1
  have kinds : ∀ y ∈ ps.zip us, scope.names.lookup y.1 = some .local ∨
      (scope.names.lookup y.1 = some .cell ∧ ((cellsFrom (s.heap.objs.size + 1) scope.names []).lookup y.1).isSome = true) := fun ⟨n, v⟩ hy => by
    rcases S.par n (List.of_mem_zip hy).1 with q | q
    · exact .inl q
    · exact .inr ⟨q, PySem.W.cellsFrom_some _ _ _ (.inl q)⟩
  refine codeAny_call_function hr.depth (kx _ _ lk) rfl S.co S.gen rfl (PySem.W.codeRec_of kx hcd) (hb _ _ _ _ ?_)
  refine wpAny_newFunctionEnv_cells S.kind kinds fun env he s1 x => ?_
  subst he
  refine ⟨nl.keeps x.toInCall.keep, codeAny_func ?_⟩
  obtain ⟨t, ht, hq⟩ := hbody A outer s H vs Q E (hr.deeper _) hg hsp
  have I : Inv (cxOf CX P w K mg base N qual scope f cdv A outer s H E) [] (start N vs) H s1 := inv_start S hr.hd e0 hl r x
  refine wpAny_mono (ht.run [] s1 (start N vs) H _ I hq) (fun fl s' hs => ?_) fun e s' hs => hs
  cases fl with
  | ret u =>
    obtain ⟨v, σ', H', J, rv, q⟩ := hs
    exact ⟨v, H', J.os, J.bare, J.base, J.hok, rv, q⟩
  | next =>
    obtain ⟨σ', H', J, q⟩ := hs
    exact ⟨V.non, H', J.os, J.bare, J.base, J.hok, rfl, q⟩
  | brk =>
    obtain ⟨_, _, _, q⟩ := hs
    exact False.elim q
  | cont =>
    obtain ⟨_, _, _, q⟩ := hs
    exact False.elim q
end
theorem okG {P : Program} {w : World} {K : PySem.W.Frag} {mg : Str → Option Value} {base : Heap} {x qual : Str} {st : Stmt} {f : Addr} {fd : FuncData} {N ps : List Str} {k : Nat} {sp : Sp}
    (F : Fun K x qual st f fd) (S : FnScope N ps (defScope st)) (len : ∀ vs H Q E, sp vs H Q E → vs.length = ps.length)
    (hbody : ∀ (cdv : Value) (A : Around) (outer : List Env) (s : Shared) (H : Hp) (vs : List V) (Q : VK) (E : XK),
      Room k (A.deeper (envOfC qual (defScope st) s.heap.objs.size f cdv)) → A.guards = some [] → sp vs H Q E →
      ∃ t, PSs (cxOf CX0 P w K mg base N qual (defScope st) f cdv A outer s H E).nox (defBody st) t ∧ t { nx := fun _ H' => Q .non H', rt := Q } (start N vs) H) :
    FnG P w K mg base CX0 (k + 1) f fd ps sp := by
  obtain ⟨oc, od, kV, doc, pm, an, cdv, ct, osl, rfl, lk, hcd⟩ := F.ex
  refine fnG_of lk hcd S len fun A outer s H vs Q E hr hg hsp => ?_
  obtain ⟨t, h, q⟩ := hbody cdv A outer s H vs Q E hr hg hsp
  exact ⟨t, h.nox, q⟩
section
variable {X : Cx} {k : Nat} {f : Addr} {fd : FuncData} {ps ks : List Str} {sp : Sp} {pins : List (Addr × Obj)} {σ : L2.St} {H : Hp} {s : Shared} {Q : VK} {us ws : List Value} {vs zs : List V}
theorem run_G {args : Args} {us' : List Value} {vs' : List V} (F : FnG X.prog X.w X.K X.mg X.base CX0 k f fd ps sp) (hr : Room k X.A) (hg : X.A.guards = some []) (I : Inv X pins σ H s)
    (hb : BindsTo s fd args (ps.zip us')) (r : Vals vs' us') (h : sp vs' H Q E0) : codeAny (model X.prog X.w) X.A (.call (.ref f) args)
      (fun r s' => match r with | .ok (.ret v) => EP X pins σ Q v s' | .ok _ => False | .error x => X.xe x s') s := by
  refine codeAny_mono (F.run X.A X.stack s H args us' vs' Q E0 hr hg I.env0 hb r h) fun r s' hq => ?_
  cases r with
  | error e => exact False.elim hq
  | ok fl =>
    cases fl with
    | ret u => exact I.after hq
    | next => exact False.elim hq
    | brk => exact False.elim hq
    | cont => exact False.elim hq
end

/-! ### the end of a law row -/
theorem law_callG {P : Program} {w : World} {K : PySem.W.Frag} {mg mb : Str → Option Value} {k : Nat} {fa a : Addr} {fd : FuncData} {x : Str} {sp : Sp} {s1 : Shared} {vs : List Value} {ns : List Int}
    (KX : K.In s1.heap) (hns : s1.heap.Ns mainGlobals mg) (hb : s1.heap.Ns builtinsNs mb) (hbb : ∀ x : Str, x ≠ "__name__" → mb x = bootBuiltins x)
    (hlim : s1.heap.NoLimit) (hg : s1.gens = #[]) (ha : s1.heap.get? a = some { cls := .type "list", data := .seq vs.toArray }) (hi : IntsAre vs ns)
    (hl : ns.length ≤ sizeLine) (hr : Room k callerA) (F : ∀ base : Heap, K.In base → base.Ns mainGlobals mg → FnG P w K mg base CX0 k fa fd [x] sp)
    (hbind : ∀ (s : Shared) (u : Value), BindsTo s fd ⟨[u], []⟩ [(x, u)])
    (hsp : ∀ H : Hp, Only H → SqL K H a (ns.map V.int) → sp [.ref a] H (fun v _ => v = .bl true) fun _ _ _ => False) :
    codeAny (model P w) callerA (.call (.ref fa) ⟨[.ref a], []⟩)
      (fun r s' => r = .ok (.ret (.bool true)) ∧ OldK s1.heap s'.heap ∧ s'.os = s1.os ∧ AllBare s'.gens) s1 := by
  have rv := vals_ints hi
  have lenV := hi.length
  have core : ∀ H : Hp, Only H → SqL K H a (ns.map V.int) → HOk P w H s1.heap → (∀ b, H b ≠ none → b = a) → (H a ≠ none → K.lookup a = none) →
      codeAny (model P w) callerA (.call (.ref fa) ⟨[.ref a], []⟩)
        (fun r s' => r = .ok (.ret (.bool true)) ∧ OldK s1.heap s'.heap ∧ s'.os = s1.os ∧ AllBare s'.gens) s1 := by
    intro H hO hS hok hA hK
    have bo : ∀ {b : Addr} {o : Obj}, s1.heap.get? b = some o → H b = none → (hidT s1.heap H).get? b = some o := fun e n => hidT_get e n
    have na : ∀ {b : Addr} {o : Obj} {es : Array DictEntry} {ep : Nat}, s1.heap.get? b = some o → o.data = .dict es ep → H b = none := by
      intro b o es ep e d
      cases q : H b with
      | none => rfl
      | some u =>
        have e' : b = a := hA b (by rw [q]; simp)
        subst e'
        rw [ha] at e; cases e
        have d' : Data.seq vs.toArray _ = Data.dict es ep := d
        cases d'
    have nsK : ∀ {b : Addr} {m : Str → Option Value}, s1.heap.Ns b m → (hidT s1.heap H).Ns b m := by
      intro b m ⟨o, es, ep, e, d, r⟩
      exact ⟨o, es, ep, bo e (na e d), d, r⟩
    have kb : K.In (hidT s1.heap H) := by
      intro b o e
      refine bo (KX b o e) ?_
      cases q : H b with
      | none => rfl
      | some u =>
        have e' : b = a := hA b (by rw [q]; simp)
        subst e'
        rw [hK (by rw [q]; simp)] at e; cases e
    have hM : Mod K mg (hidT s1.heap H) := by
      obtain ⟨mc, h1, h2⟩ := hlim
      exact ⟨kb, nsK hns, ⟨mb, nsK hb, hbb⟩, ⟨mc, nsK h1, h2⟩⟩
    have e0 : Env0 P w K mg (hidT s1.heap H) callerA [] s1 H :=
      ⟨rfl, hM, fun b o e => of_hidT e, Nat.le_of_eq (hidT_size _ _), trivial, fun b hb => absurd (show b ∈ ([] : List Addr) from hb) (by simp), hok, .of_eq hg⟩
    refine codeAny_mono ((F _ kb (nsK hns)).run callerA [] s1 H ⟨[.ref a], []⟩ [.ref a] [.ref a] _ _ hr rfl e0 (hbind s1 (.ref a)) (.cons rfl .nil) (hsp H hO hS)) fun r s' h => ?_
    cases r with
    | error e => exact h.elim
    | ok fl =>
      cases fl with
      | next => exact False.elim h
      | brk => exact False.elim h
      | cont => exact False.elim h
      | ret u =>
        obtain ⟨v, H', os, bare, un, hok', r', q⟩ := h
        have q' : v = .bl true := q
        subst q'
        obtain rfl : u = Value.bool true := r'
        refine ⟨rfl, OldK.of_keep fun b o e => ?_, os, bare⟩
        cases q : H b with
        | none => exact un.keep b o e q (fun z => nomatch (show b ∈ ([] : List Addr) from z)) (by simp)
        | some u =>
          rcases hO b with z | ⟨ob, xs, z⟩
          · rw [q] at z; cases z
          · obtain ⟨e1, _⟩ := hok b _ z
            obtain ⟨e2, _⟩ := hok' b _ (un.frzs b ob _ z)
            rw [e] at e1; cases e1
            exact e2
  cases hk : K.lookup a with
  | some o =>
    have e := KX a o hk
    rw [ha] at e
    cases e
    exact core (fun _ => none) (fun _ => .inl rfl) (.inr ⟨_, vs.toArray, _, hk, rfl, rfl, rfl, by rw [List.size_toArray, lenV]; exact hl, by simpa using rv⟩)
      (fun b u z => by cases (show (none : Option HO) = some u from z)) (fun b z => absurd rfl z) fun z => absurd rfl z
  | none =>
    refine core (fun b => if b = a then some (.frz { cls := .type "list", data := .seq vs.toArray } (.lst (ns.map V.int))) else none)
      (fun b => ?_) (.inl (.inr ⟨{ cls := .type "list", data := .seq vs.toArray }, if_pos rfl⟩)) (fun b u z => ?_) (fun b z => ?_) fun _ => hk
    · by_cases hb : b = a
      · exact .inr ⟨_, _, if_pos hb⟩
      · exact .inl (if_neg hb)
    · by_cases hb : b = a
      · cases (if_pos hb).symm.trans z
        subst hb
        exact ⟨ha, by rw [List.length_map]; exact hl, vs, _, rv, ha⟩
      · cases (if_neg hb).symm.trans z
    · by_cases hb : b = a
      · exact hb
      · exact absurd (if_neg hb) z
theorem walk_G {l : PySem.W.OpenLaw} {n k : Nat} {q : Program} {loose : List Str} {XP : (Str → Option Value) → Heap → Prop} {YP : World → Heap → Prop} {d : DefRec} {K : Params → PySem.W.Frag}
    {sp : PySem.W.Frag → Sp} {x : Str} (hn : l.most = some n) (hn2 : n ≤ sizeLine) (hdf : d.params.defaults = []) (hr : Room k callerA)
    (hY : ∀ (w : World) (h : Heap), YP w h → (K w.params).In h)
    (F : ∀ (w : World) (mg : Str → Option Value) (fa : Addr) (h : Heap), (K w.params).In h → h.Ns mainGlobals mg → mg d.name = some (.ref fa) →
      ∃ fd : FuncData, (∀ (s : Shared) (u : Value), BindsTo s fd ⟨[u], []⟩ [(x, u)]) ∧
        ∀ base : Heap, (K w.params).In base → base.Ns mainGlobals mg → FnG l.prog w (K w.params) mg base CX0 k fa fd [x] (sp (K w.params)))
    (hsp : ∀ (K : PySem.W.Frag) (H : Hp) (a : Addr) (ns : List Int), ns.length ≤ n → Only H → SqL K H a (ns.map V.int) → sp K [.ref a] H (fun v _ => v = .bl true) fun _ _ _ => False) :
    PySem.W.WalkO q loose XP YP l.row.toRowW d [] (fun f vs => PySem.call f vs) := by
  refine Att.attach_call hn hdf fun w s0 s1 mg mb fa o pm cd doc a vs ns G Y ho hd hcd hmg hobj hints hlen hg => ?_
  have KX := hY w _ Y
  obtain ⟨fd, hb, hF⟩ := F w mg fa _ KX G.T.g hmg
  exact law_callG KX G.T.g G.T.b G.T.builtins G.T.nolimit hg hobj hints (Nat.le_trans hlen hn2) hr hF hb fun H hO hS => hsp _ H a ns hlen hO hS
end Lay

set_option Elab.async false
set_option linter.all false
set_option maxRecDepth 100000
set_option maxHeartbeats 4000000
namespace Lay
open PySem L2

/-! ### the same objects, some of them told otherwise -/
structure Alike (H H1 : Hp) : Prop where
  none : ∀ b, H b = Option.none ↔ H1 b = Option.none
  tup : ∀ b xs, H b = some (.tup xs) ↔ H1 b = some (.tup xs)
  frz : ∀ b o u, H b = some (.frz o u) ↔ H1 b = some (.frz o u)
  tbl : ∀ b ps, H b = some (.tbl ps) ↔ H1 b = some (.tbl ps)
theorem Alike.refl {H : Hp} : Alike H H := ⟨fun _ => Iff.rfl, fun _ _ => Iff.rfl, fun _ _ _ => Iff.rfl, fun _ _ => Iff.rfl⟩
/-- no tuple, no locked object, no table, no own dict -/
def plainO : HO → Bool
  | .tup _ => false
  | .frz _ _ => false
  | .tbl _ => false
  | .own _ => false
  | _ => true
theorem Alike.upd {H : Hp} {q : Addr} {o o' : HO} (h : H q = some o) (p : plainO o = true) (p' : plainO o' = true) : Alike H (upd H q o') := by
  refine ⟨fun b => ?_, fun b xs => ?_, fun b o u => ?_, fun b ps => ?_⟩ <;> by_cases e : b = q
  · subst e; rw [upd_same, h]; constructor <;> intro z <;> cases z
  · rw [upd_ne e]
  · subst e; rw [upd_same, h]; constructor <;> intro z <;> cases z <;> first | cases p | cases p'
  · rw [upd_ne e]
  · subst e; rw [upd_same, h]; constructor <;> intro z <;> cases z <;> first | cases p | cases p'
  · rw [upd_ne e]
  · subst e; rw [upd_same, h]; constructor <;> intro z <;> cases z <;> first | cases p | cases p'
  · rw [upd_ne e]
theorem un_alike {fs : List Addr} {H H1 H2 H3 : Hp} {h h' : Heap} (a : Alike H H1) (b : Alike H2 H3) (u : Un fs [] H1 H2 h h') : Un fs [] H H3 h h' where
  keep := fun c o q n hc hx => u.keep c o q ((a.none c).mp n) hc hx
  slot := fun c o q n hc hx => u.slot c o q ((a.none c).mp n) hc hx
  free := fun c o q n hx => (b.none c).mp (u.free c o q ((a.none c).mp n) hx)
  there := fun c o q hx => u.there c o q hx
  tups := fun c xs q => (b.tup c xs).mp (u.tups c xs ((a.tup c xs).mp q))
  frzs := fun c o x q => (b.frz c o x).mp (u.frzs c o x ((a.frz c o x).mp q))
  tbls := fun c ps q => by
    obtain ⟨m, z⟩ := u.tbls c ps ((a.tbl c ps).mp q)
    exact ⟨m, (b.tbl c _).mp z⟩
theorem hok_retell {P : Program} {w : World} {H : Hp} {h : Heap} {q : Addr} {o o' : HO} (x : HOk P w H h) (e : H q = some o) (p : plainO o = true) (new : ObjOk P w (upd H q o') h q o') : HOk P w (upd H q o') h := fun b u eb => by
  by_cases hb : b = q
  · subst hb; rw [upd_same] at eb; cases eb; exact new
  · rw [upd_ne hb] at eb
    refine (x b u eb).stay (fun _ _ _ z => z) (fun c z => ?_) fun c xs z => ?_
    · rw [upd_ne (fun e' => by subst e'; rw [e] at z; cases z; cases p)]; exact z
    · rw [upd_ne (fun e' => by subst e'; rw [e] at z; cases z; cases p)]; exact z
theorem retell {P : Program} {w : World} {K : PySem.W.Frag} {mg : Str → Option Value} {base : Heap} {k : Nat} {f : Addr} {fd : FuncData} {ps : List Str} {sp sp' : Sp} (F : FnG P w K mg base CX0 k f fd ps sp) (hl : ∀ vs H Q E, sp' vs H Q E → vs.length = ps.length)
    (h : ∀ vs H Q E hp, sp' vs H Q E → HOk P w H hp → ∃ H1, Alike H H1 ∧ HOk P w H1 hp ∧ sp vs H1 (fun v H2 => ∀ hp', HOk P w H2 hp' → ∃ H3, Alike H2 H3 ∧ HOk P w H3 hp' ∧ Q v H3) E) : FnG P w K mg base CX0 k f fd ps sp' := by
  refine ⟨hl, fun A outer s H args us vs Q E hr hg e0 hb hv hs => ?_⟩
  obtain ⟨H1, al, ok1, hs1⟩ := h vs H Q E s.heap hs e0.hok
  have e1 : Env0 P w K mg base A outer s H1 := ⟨e0.frames, e0.mod, fun b o e => ⟨(e0.bs b o e).1, (al.none b).mp (e0.bs b o e).2⟩, e0.bsz, e0.funs, fun b hb => (al.none b).mp (e0.frf b hb), ok1, e0.bare⟩
  refine codeAny_mono (F.run A outer s H1 args us vs _ E hr hg e1 hb hv hs1) fun r s' q => ?_
  cases r with
  | error er => exact False.elim q
  | ok fl =>
    cases fl with
    | ret u =>
      obtain ⟨v, H2, os, ba, un, ok2, rv, q2⟩ := q
      obtain ⟨H3, al2, ok3, q3⟩ := q2 s'.heap ok2
      exact ⟨v, H3, os, ba, un_alike al al2 un, ok3, rv, q3⟩
    | next => exact False.elim q
    | brk => exact False.elim q
    | cont => exact False.elim q

/-! ### a def of the text, with all that a call of it needs -/
def Kw1 (fd : FuncData) (ps : List Str) : Prop := ∀ p v, ps = [p] → bindArgs fd ⟨[], [(p, v)]⟩ = pure [(p, v)]
def Src (K : PySem.W.Frag) (mg : Str → Option Value) (x : Str) (st : Stmt) (ps : List Str) : Prop := ∃ f fd, Fun K x x st f fd ∧ mg x = some (.ref f) ∧ Binds K fd ps [] ∧ Kw1 fd ps
def Df (P : Program) (w : World) (K : PySem.W.Frag) (mg : Str → Option Value) (base : Heap) (k : Nat) (x : Str) (ps : List Str) (sp : Sp) : Prop :=
  ∃ f fd, FnG P w K mg base CX0 k f fd ps sp ∧ mg x = some (.ref f) ∧ PySem.W.keepIn K (.ref f) = true ∧ Binds K fd ps [] ∧ Kw1 fd ps
section
variable {P : Program} {w : World} {K : PySem.W.Frag} {mg : Str → Option Value} {base : Heap} {x : Str} {st : Stmt} {N ps : List Str} {sp sp' : Sp} {k j : Nat}
theorem Src.ok (S : Src K mg x st ps) (h : ∀ f fd, Fun K x x st f fd → FnG P w K mg base CX0 k f fd ps sp) : Df P w K mg base k x ps sp := by
  obtain ⟨f, fd, F, g, b⟩ := S
  exact ⟨f, fd, h f fd F, g, F.kp, b⟩
/-- a def, by its body -/
theorem Src.by (S : Src K mg x st ps) (sc : FnScope N ps (defScope st)) (len : ∀ vs H Q E, sp vs H Q E → vs.length = ps.length)
    (hbody : ∀ (f : Addr) (cdv : Value) (A : Around) (outer : List Env) (s : Shared) (H : Hp) (vs : List V) (Q : VK) (E : XK),
      Room k (A.deeper (PyProof.Rows.envOfC x (defScope st) s.heap.objs.size f cdv)) → A.guards = some [] → sp vs H Q E →
      ∃ t, PSs (cxOf CX0 P w K mg base N x (defScope st) f cdv A outer s H E).nox (defBody st) t ∧ t { nx := fun _ H' => Q .non H', rt := Q } (start N vs) H) : Df P w K mg base (k + 1) x ps sp :=
  S.ok fun f fd F => okG F sc len (hbody f)
theorem Df.imp (D : Df P w K mg base k x ps sp) (h : ∀ vs H Q E, sp' vs H Q E → sp vs H Q E) : Df P w K mg base k x ps sp' := by
  obtain ⟨f, fd, F, r⟩ := D
  exact ⟨f, fd, F.imp h, r⟩
theorem Df.mono (D : Df P w K mg base j x ps sp) (h : j ≤ k) : Df P w K mg base k x ps sp := by
  obtain ⟨f, fd, F, r⟩ := D
  exact ⟨f, fd, F.mono h, r⟩
theorem Df.retell (D : Df P w K mg base k x ps sp) (hl : ∀ vs H Q E, sp' vs H Q E → vs.length = ps.length)
    (h : ∀ vs H Q E hp, sp' vs H Q E → HOk P w H hp → ∃ H1, Alike H H1 ∧ HOk P w H1 hp ∧ sp vs H1 (fun v H2 => ∀ hp', HOk P w H2 hp' → ∃ H3, Alike H2 H3 ∧ HOk P w H3 hp' ∧ Q v H3) E) : Df P w K mg base k x ps sp' := by
  obtain ⟨f, fd, F, r⟩ := D
  exact ⟨f, fd, Lay.retell F hl h, r⟩
end
/-- f(..), f(k = e), no exception leaves f -/
def tG (sp : Sp) (t : TA) : TE := fun σ H Q => t σ H fun vs H1 => sp vs H1 Q E0
section
variable {X : Cx} {x nm : Str} {ps : List Str} {sp : Sp} {k : Nat} {e : Expr} {es : List Expr} {t : TA} {te : TE} {p pos kpos : Pos}
theorem pe_own (D : Df X.prog X.w X.K X.mg X.base k x ps sp) (hr : Room k X.A) (hgd : X.A.guards = some []) (ht : PA X (e :: es) t) (hg : Gl X x := by rfl) (hdb : (x == ("__debug__" : Str)) = false := by decide) (hs : starEach (e :: es) X.env = (false, eval e X.env) :: starEach es X.env := by rfl) (hpl : (backTo pos (starEach es X.env)).any (·.1) = false := by rfl) :
    PE X (.Call (.Name x p) (e :: es) [] pos) (tG sp t) := by
  obtain ⟨f, fd, F, g, kp, b, _⟩ := D
  refine ⟨fun pins s σ H Q I h => ?_⟩
  refine wpAny_Call_Name_kw (ld_glob I hg g ?_ hdb)
  refine PySem.W.callWith_K (h₀ := X.base) I.ok.mod.kin kp (thn (ht.run pos pins s σ H _ I h) fun us s1 ⟨vs, H1, I1, r, q⟩ => ⟨I1.kIn, ?_⟩) hs hpl
  have hl : (us ++ []).length = ps.length := by rw [List.append_nil, ← r.length]; exact F.len _ _ _ _ q
  have b1 := b s1 us I1.kIn hl
  rw [List.append_nil] at b1
  exact wpAny_call (run_G F hr hgd I1 b1 r q)
theorem pe_own0 (D : Df X.prog X.w X.K X.mg X.base k x ps sp) (hr : Room k X.A) (hgd : X.A.guards = some []) (hg : Gl X x := by rfl) (hdb : (x == ("__debug__" : Str)) = false := by decide) : PE X (.Call (.Name x p) [] [] pos) (tG sp tNil) := by
  obtain ⟨f, fd, F, g, kp, b, _⟩ := D
  refine ⟨fun pins s σ H Q I h => ?_⟩
  refine wpAny_Call_Name_kw (ld_glob I hg g ?_ hdb)
  refine PySem.W.callWith_K0 I.kIn kp ?_
  have b1 := b s [] I.kIn (F.len _ _ _ _ h)
  exact wpAny_call (run_G F hr hgd I b1 .nil h)
theorem pe_own1K {q : Str} {kws : List Keyword} {tk : TA} (D : Df X.prog X.w X.K X.mg X.base k x [q] sp) (hr : Room k X.A) (hgd : X.A.guards = some []) (hkw : PK X kws tk) (hg : Gl X x := by rfl) (hdb : (x == ("__debug__" : Str)) = false := by decide)
    (hall : (backToKw pos (keywordEach kws X.env)).all (·.1.isSome) = true := by rfl) (hks : (backToKw pos (keywordEach kws X.env)).filterMap (·.1) = [q] := by rfl)
    (hpl : ((backTo pos (starEach [] X.env)).any (·.1) || (backToKw pos (keywordEach kws X.env)).any (·.1.isNone)) = false := by rfl) : PE X (.Call (.Name x p) [] kws pos) (tG sp tk) := by
  obtain ⟨f, fd, F, g, kp, _, b⟩ := D
  refine ⟨fun pins s σ H Q I h => ?_⟩
  refine wpAny_Call_Name_kw (ld_glob I hg g ?_ hdb)
  refine PySem.W.callWith_KW0 (h₀ := X.base) I.ok.mod.kin kp hall ?_ hpl
  refine thn (hkw.run pos pins s σ H _ I h) fun ws s2 ⟨zs, H2, I2, rz, q2⟩ => ⟨I2.kIn, ?_⟩
  rw [hks]
  have hl : zs.length = 1 := F.len _ _ _ _ q2
  cases rz with
  | nil => cases hl
  | @cons z u zr ur h1 rest =>
    cases rest with
    | cons _ _ => cases hl
    | nil =>
      have b1 : BindsTo s2 fd ⟨[], [(q, u)]⟩ ([q].zip [u]) := .of_eq (b q u rfl)
      exact wpAny_call (run_G (us' := [u]) (vs' := [z]) F hr hgd I2 b1 (.cons h1 .nil) q2)
end

/-! ### the pot: a list of two ints, whatever they are -/
def PotF (q : Addr) (h : Heap) : Prop := ∃ (a b : Int) (its : List Value) (n : Nat), 0 ≤ b ∧ b < 2147483648 ∧ Vals [.int a, .int b] its ∧ h.get? q = some { cls := .type "list", data := .seq its.toArray n }
def PotO (q : Addr) : HO := .ext (PotF q)
theorem pot_ok {P : Program} {w : World} {H : Hp} {h : Heap} {q : Addr} {a b : Int} (b0 : 0 ≤ b) (b1 : b < 2147483648) (x : ObjOk P w H h q (.lst [.int a, .int b])) (H' : Hp) : ObjOk P w H' h q (PotO q) := by
  obtain ⟨_, its, n, v, e⟩ := x
  exact ⟨⟨a, b, its, n, b0, b1, v, e⟩, ⟨_, e⟩, fun h1 h2 ⟨a, b, its, n, c0, c1, v, e⟩ k => ⟨a, b, its, n, c0, c1, v, k _ e⟩⟩
theorem pot_get {P : Program} {w : World} {H : Hp} {h : Heap} {q : Addr} (x : HOk P w H h) (e : H q = some (PotO q)) : ∃ a b : Int, 0 ≤ b ∧ b < 2147483648 ∧ ∀ H', ObjOk P w H' h q (.lst [.int a, .int b]) := by
  obtain ⟨⟨a, b, its, n, b0, b1, v, e⟩, _⟩ := x q _ e
  exact ⟨a, b, b0, b1, fun H' => ⟨by show 2 ≤ sizeLine; decide, its, n, v, e⟩⟩

/-- the raw promises: of the def that draws, of the def that makes a pot -/
def spDraw0 : Sp := fun vs H Q _ => ∃ (p : Addr) (m a b : Int), vs = [.ref p, .int m] ∧ H p = some (.lst [.int a, .int b]) ∧ 0 ≤ b ∧ b < 2147483648 ∧ 0 < m ∧ m < 2 ^ 200 ∧
  ∀ d a' b' H', 0 ≤ d → d < m → 0 ≤ b' → b' < 2147483648 → (∀ q o, q ≠ p → H q = some o → H' q = some o) → H' p = some (.lst [.int a', .int b']) → Q (.int d) H'
def spDraw : Sp := fun vs H Q _ => ∃ (p : Addr) (m : Int), vs = [.ref p, .int m] ∧ H p = some (PotO p) ∧ 0 < m ∧ m < 2 ^ 200 ∧
  ∀ d H', 0 ≤ d → d < m → Same H H' → Q (.int d) H'
theorem draw_up {P : Program} {w : World} {K : PySem.W.Frag} {mg : Str → Option Value} {base : Heap} {x : Str} {ps : List Str} {k : Nat} (D : Df P w K mg base k x ps spDraw0) (hl : ps.length = 2) : Df P w K mg base k x ps spDraw := by
  refine D.retell (fun vs H Q E h => ?_) fun vs H Q E hp h ok => ?_
  · obtain ⟨p, m, rfl, _⟩ := h; exact hl.symm
  · obtain ⟨p, m, rfl, e, m0, m1, k⟩ := h
    obtain ⟨a, b, b0, b1, o⟩ := pot_get ok e
    refine ⟨upd H p (.lst [.int a, .int b]), .upd e rfl rfl, hok_retell ok e rfl (o _), p, m, a, b, rfl, upd_same, b0, b1, m0, m1, fun d a' b' H' d0 d1 c0 c1 ks e' hp' ok' => ?_⟩
    refine ⟨upd H' p (PotO p), .upd e' rfl rfl, hok_retell ok' e' rfl (pot_ok c0 c1 (ok' _ _ e') _), k d _ d0 d1 fun q u hq => ?_⟩
    by_cases z : q = p
    · subst z; rw [e] at hq; cases hq; exact upd_same
    · rw [upd_ne z]; exact ks q u z (by rw [upd_ne z]; exact hq)
def spPot0 (K : PySem.W.Frag) : Sp := fun vs H Q _ => ∃ (s : Addr) (ns : List Int) (i : Nat), vs = [.ref s, .int i] ∧ SqL K H s (ns.map V.int) ∧ ns.length ≤ 63 ∧ i < 1000 ∧
  ∀ a b p H', 0 ≤ b → b < 2147483648 → H p = none → Same H H' → H' p = some (.lst [.int a, .int b]) → Q (.ref p) H'
def spPot (K : PySem.W.Frag) : Sp := fun vs H Q _ => ∃ (s : Addr) (ns : List Int) (i : Nat), vs = [.ref s, .int i] ∧ SqL K H s (ns.map V.int) ∧ ns.length ≤ 63 ∧ i < 1000 ∧
  ∀ p H', H p = none → Same H H' → H' p = some (PotO p) → Q (.ref p) H'
theorem pot_up {P : Program} {w : World} {K : PySem.W.Frag} {mg : Str → Option Value} {base : Heap} {x : Str} {ps : List Str} {k : Nat} (D : Df P w K mg base k x ps (spPot0 K)) (hl : ps.length = 2) : Df P w K mg base k x ps (spPot K) := by
  refine D.retell (fun vs H Q E h => ?_) fun vs H Q E hp h ok => ?_
  · obtain ⟨s, ns, i, rfl, _⟩ := h; exact hl.symm
  · obtain ⟨s, ns, i, rfl, hs, l, i1, k⟩ := h
    refine ⟨H, .refl, ok, s, ns, i, rfl, hs, l, i1, fun a b p H' b0 b1 np sm e hp' ok' => ?_⟩
    refine ⟨upd H' p (PotO p), .upd e rfl rfl, hok_retell ok' e rfl (pot_ok b0 b1 (ok' _ _ e) _), k p _ np (fun q u hq => ?_) upd_same⟩
    rw [upd_ne (ne_of_none hq np)]
    exact sm q u hq
theorem pe_con1 {X : Cx} {x : Str} {v : V} {pos : Pos} (h : ∃ u, X.mg x = some u ∧ RelV v u) (hg : Gl X x := by rfl) (hdb : (x == ("__debug__" : Str)) = false := by decide) : PE X (.Name x pos) (tC v) := by
  obtain ⟨u, e, r⟩ := h
  exact pe_glob hg e r (hd := hdb)
theorem Same.new {H : Hp} {p : Addr} {o : HO} (h : H p = none) : Same H (upd H p o) := fun a u e => by
  rw [upd_ne (ne_of_none e h)]; exact e
theorem Same.mut {H H' : Hp} {p : Addr} {o : HO} (e : Same H H') (h : H p = none) : Same H (upd H' p o) := fun a u ha => by
  rw [upd_ne (ne_of_none ha h)]; exact e a u ha
theorem same_t {K : PySem.W.Frag} {H H' : Hp} {a : Addr} {xs : List V} (e : Same H H') (h : SqT K H a xs) : SqT K H' a xs := by
  rcases h with (h | ⟨o, h⟩) | h
  · exact .inl (.inl (e _ _ h))
  · exact .inl (.inr ⟨o, e _ _ h⟩)
  · exact .inr h
theorem divs_ok {a m : Int} (m0 : 0 < m) (h : m < 2 ^ 200) : Builtin.divisionGoesByPylong a m = false := by
  have e : m.natAbs < 2 ^ 200 := by omega
  have e2 : m.natAbs.log2 < 200 := (Nat.log2_lt (by omega)).mpr e
  show (decide ((if m == 0 then 0 else m.natAbs.log2 / 30 + 1) > 300) && _) = false
  rw [if_neg (show ¬ (m == 0) = true by simpa using (show m ≠ 0 by omega))]
  rw [decide_eq_false (by omega)]
  rfl
end Lay

set_option Elab.async false
set_option linter.all false
set_option maxRecDepth 100000
set_option maxHeartbeats 4000000
namespace PySem
namespace Exv
open Builtin Builtin.ObjectAttr
section
variable {prog : Program} {w : World} {A : Around} {E : Value → Shared → Prop} {R : Result → Shared → Prop}
variable {h : Heap} {g : Array GenState} {d : Drawn} {t : Nat} {os : OsState}
variable {nm q : Str} {C N : Addr} {bs bm bmB : List Value} {hdct : Bool} {sn : List Str} {sub : List Value}
variable {ab : Bool} {col : Option Bool} {dd : Option Addr} {k0 k1 k2 k3 k5 : Option Value} {B newId initId : String}

theorem chk_kw {M : Model} (F : ExcBaseFacts B newId initId bmB) (hT : ∀ X : String, bm.contains (.type X) = bmB.contains (.type X))
    {rest : List Value} {kw : List (Str × Value)} {Q : Unit → Shared → Prop}
    (hC : h.get? C = some (excClassObj nm q C N bs bm hdct sn sub ab col dd k0 k1 k2 k3 k5 newId))
    (hq : Q () ⟨h, g, d, t, os⟩) : wpAny M A (checkBuiltinCall newId ⟨.ref C :: rest, kw⟩) Q E ⟨h, g, d, t, os⟩ := by
  have hcont : (Value.ref C :: bm).contains (.type B) = true := by rw [List.contains_cons, hT, F.hasB, Bool.or_true]
  have hstar := F.noStar
  simp only [checkBuiltinCall, F.newKind, F.newSplit, F.newRow]
  repeat (first
    | refine wpAny_loadPart_at hC ?_
    | (refine wpAny_isSubtype_exc hC ?_; rw [hcont])
    | refine wpAny_staticBase_exc hC ?_
    | refine wpAny_madeBy_exc hC ?_
    | simp only [bne_self_eq_false, Bool.false_eq_true, if_false]
    | wp_step)
  exact hq

theorem new_kw (F : ExcBaseFacts B newId initId bmB) (hT : ∀ X : String, bm.contains (.type X) = bmB.contains (.type X))
    {rest : List Value} {kw : List (Str × Value)}
    (hC : h.get? C = some (excClassObj nm q C N bs bm hdct sn sub ab col dd k0 k1 k2 k3 k5 newId))
    (hq : R (.ok (.ret (.ref (h.objs.size + 1))))
      ⟨(h.push (W.kdv_tup rest)).push (HandSPX.excO C h.objs.size), g, d, t, os⟩)
    (hrest : rest.length ≤ sizeLine) :
    codeAny (model prog w) A (.builtin newId ⟨.ref C :: rest, kw⟩) R ⟨h, g, d, t, os⟩ := by
  have z1 := F.ends
  have z2 : (Value.ref C :: bm).contains (.type B) = true := by rw [List.contains_cons, hT, F.hasB, Bool.or_true]
  have z3 : (Value.ref C :: bm).contains (.type "AttributeError") = false := by
    rw [List.contains_cons, hT, F.noAttr]
    rfl
  have z4 : (Value.ref C :: bm).contains (.type "NameError") = false := by
    rw [List.contains_cons, hT, F.noName]
    rfl
  refine codeAny_builtinAt F.entry ?_
  unfold Builtin.«BaseException.__new__»
  refine wpAt_bind ?_
  show wpAt _ _ _ (stack >>= _) _ _ _
  refine wpAt_bind (wpAt_stack fun p below => wpAt_of_wpAny ?_)
  wp_walk
  refine wpAt_of_wpAny ?_
  rw [F.owner]
  repeat (first
    | with_reducible refine wpAny_madeHere_exc F.canon hC ?_
    | with_reducible refine wpAny_loadPart_at hC ?_
    | (with_reducible refine wpAny_isSubtype_exc hC ?_; first | rw [z2] | rw [z3] | rw [z4])
    | wp_step)
  show R _ _
  rw [Heap.size_push]
  exact hq

theorem tcall_kw (F : ExcBaseFacts B newId initId bmB) (hT : ∀ X : String, bm.contains (.type X) = bmB.contains (.type X))
    {rest : List Value} {kw : List (Str × Value)} {fI : Addr} {Q : Fin → Shared → Prop}
    (hC : h.get? C = some (excClassObj nm q C N bs bm hdct sn sub ab col dd k0 k1 k2 k3 k5 newId))
    (hi : W.Looks (model prog w) h (typeLookup (.ref C) "__init__") (some (.ref fI)))
    (hb : ∀ self, W.Looks (model prog w) h (bindSpecial (.ref fI) self) (.ref fI, [self])) (hrest : rest.length ≤ sizeLine)
    (hq : codeAny (model prog w) A (.call (.ref fI) ⟨.ref (h.objs.size + 1) :: rest, kw⟩)
      (fun r s' => match r with
        | .ok (.ret v) => v = .none ∧ Q (.done (.ret (.ref (h.objs.size + 1)))) s'
        | .ok _ => False
        | .error e => E e s')
      ⟨(h.push (W.kdv_tup rest)).push (HandSPX.excO C h.objs.size), g, d, t, os⟩) :
    wpAny (model prog w) A (Builtin.«type.__call__» ⟨.ref C :: rest, kw⟩) Q E ⟨h, g, d, t, os⟩ := by
  repeat (first
    | with_reducible refine wpAny_loadPart_at hC ?_
    | with_reducible refine wpAny_madeBy_exc hC ?_
    | wp_step)
  refine codeAny_call_builtin_code (Code.quiet_builtin _ F.quiet) (chk_kw F hT hC ?_)
  refine new_kw F hT hC ?_ hrest
  show wpAny _ _ _ _ _ _
  have kk : ∀ b o, h.get? b = some o → ((h.push (W.kdv_tup rest)).push (HandSPX.excO C h.objs.size)).get? b = some o :=
    fun b o e => Heap.get?_push_of_some _ (Heap.get?_push_of_some _ e)
  have c1 := kk _ _ hC
  have c2 : ((h.push (W.kdv_tup rest)).push (HandSPX.excO C h.objs.size)).get? (h.objs.size + 1) = some (HandSPX.excO C h.objs.size) := by heap_get
  have c3 : (Value.ref C :: bm).contains (.ref C) = true := by simp
  have i1 := hi.keeps kk
  have b1 := (hb (.ref (h.objs.size + 1))).keeps kk
  unfold isInstance
  repeat (first
    | with_reducible refine wpAny_loadPart_at c2 ?_
    | (with_reducible refine wpAny_isSubtype_exc c1 ?_; rw [c3])
    | wp_step)
  show wpAny _ _ (typeLookup (.ref C) _) _ _ _
  refine i1.at ?_
  refine wpAny_holding (wpAny_bind (b1.at ?_))
  refine wpAny_bind (wpAny_call (codeAny_mono hq fun r s' z => ?_))
  rcases r with e | (v | _ | _ | _) <;> first | exact z | exact z.elim | skip
  obtain ⟨rfl, z⟩ := z
  first
    | exact wpAny_pure (wpAny_pure z)
    | (wp_walk; exact z)

theorem chkt_kw {M : Model} {rest : List Value} {kw : List (Str × Value)} {Q : Unit → Shared → Prop}
    (hC : h.get? C = some (excClassObj nm q C N bs bm hdct sn sub ab col dd k0 k1 k2 k3 k5 newId))
    (hq : Q () ⟨h, g, d, t, os⟩) : wpAny M A (checkBuiltinCall "type.__call__" ⟨.ref C :: rest, kw⟩) Q E ⟨h, g, d, t, os⟩ := by
  have f3 := tc_sub
  have hT : (⟨h, g, d, t, os⟩ : Shared).TypeIs (.ref C) "type" := ⟨_, hC, rfl⟩
  simp only [checkBuiltinCall, tc_kind, tc_split]
  repeat (any_goals (first
    | assumption
    | with_reducible refine wpAny_loadPart_at hC ?_
    | with_reducible refine wpAny_onRaise ?_
    | with_reducible refine wpAny_map ?_
    | wp_step))

theorem call_kw (F : ExcBaseFacts B newId initId bmB) (hT : ∀ X : String, bm.contains (.type X) = bmB.contains (.type X))
    {rest : List Value} {kw : List (Str × Value)} {fI : Addr}
    (hC : h.get? C = some (excClassObj nm q C N bs bm hdct sn sub ab col dd k0 k1 k2 k3 k5 newId))
    (hi : W.Looks (model prog w) h (typeLookup (.ref C) "__init__") (some (.ref fI)))
    (hb : ∀ self, W.Looks (model prog w) h (bindSpecial (.ref fI) self) (.ref fI, [self])) (hrest : rest.length ≤ sizeLine)
    (hq : codeAny (model prog w) (A.under (.builtin "type.__call__" ⟨.ref C :: rest, kw⟩))
      (.call (.ref fI) ⟨.ref (h.objs.size + 1) :: rest, kw⟩) (W.InitBack (h.objs.size + 1) R)
      ⟨(h.push (W.kdv_tup rest)).push (HandSPX.excO C h.objs.size), g, d, t, os⟩) :
    codeAny (model prog w) A (.call (.ref C) ⟨rest, kw⟩) R ⟨h, g, d, t, os⟩ := by
  have f1 := tc_lookup
  have f2 := tc_bind (.ref C)
  have hTy : (⟨h, g, d, t, os⟩ : Shared).TypeIs (.ref C) "type" := ⟨_, hC, rfl⟩
  refine codeAny_of_tree ?_
  show wpAny _ _ (callAny (.ref C) _) _ _ _
  repeat (any_goals (first
    | assumption
    | with_reducible refine wpAny_loadPart_at hC ?_
    | wp_step))
  refine ⟨rfl, ?_⟩
  refine codeAny_call_builtin_at (Code.quiet_builtin _ (by decide +kernel)) entry_typeCall (chkt_kw hC (tcall_kw F hT hC hi hb hrest ?_))
  refine codeAny_mono hq fun r s' z => ?_
  rcases r with e | (v | _ | _ | _) <;> exact z
end
end Exv
end PySem

set_option Elab.async false
set_option linter.all false
set_option maxRecDepth 100000
set_option maxHeartbeats 4000000
namespace PySem
namespace Exv
open Builtin Builtin.ObjectAttr
section
variable {prog : Program} {w : World} {A : Around} {E : Value → Shared → Prop} {R : Result → Shared → Prop}
variable {hp : Heap} {g : Array GenState} {d : Drawn} {t : Nat} {os : OsState} {B : String} {bmB : List Value}

/-- the ends that both stores share: what comes ahead of the store into the own dict -/
theorem osa_head {K : W.Frag} {name : Str} {tk : Tok} {v : Value} {x C : Addr} {ox : Obj} {od : Option Obj} {cd : ClassData} {bm : List Value}
    (SF : StoreFacts B bmB "object.__setattr__" "object") (X : K.In hp) (I : W.InstAt hp x ox C od) (hcd : W.clsIn K C = some cd)
    (hm : cd.mro = .ref C :: bm) (ht : W.excTail bmB bm = true) (ha : W.findIn K (.ref C) name = some none)
    (hq : wpAny (model prog w) A.in1 (storeInOwnDict (.ref x) (.ref C) (.str name tk) name v false)
      (fun fin s' => match fin with | .done f => R (.ok f) s' | .again c' => c'.quiet = true ∧ codeAny (model prog w) A c' R s')
      (fun e s' => R (.error e) s') ⟨hp, g, d, t, os⟩) :
    codeAny (model prog w) A (.call (.builtin "object.__setattr__") ⟨[.ref x, .str name tk, v], []⟩) R ⟨hp, g, d, t, os⟩ := by
  have ob : cd.mro.contains (.type "object") = true := by
    rw [hm, List.contains_cons, W.excTail_contains "object" _ ht, SF.hasOwner, Bool.or_true]
  have ne : cd.mro.isEmpty = false := by rw [hm]; rfl
  have sub : W.Looks (model prog w) hp (isInstance (.ref x) (.type "object")) true :=
    I.type.andThen (W.looks_mroIn X (by unfold W.mroIn; rw [hcd, Option.bind_some, if_neg (by rw [ne]; decide), ob]))
  refine codeAny_call_builtin SF.slot.plain SF.entry
    (@W.check_slot (model prog w) _ _ ⟨hp, g, d, t, os⟩ "object.__setattr__" "object" "__setattr__" (.ref x) [.str name tk, v] [] _
      SF.kind SF.split sub (SF.args (.ref x) (.str name tk) v) ?_)
  have l1 : W.Looks (model prog w) hp (mroOf (.ref C)) cd.mro := (W.looks_clsIn X hcd).andThen .now
  have l3 : W.Looks (model prog w) hp (storeTaker? none) none := .now
  rw [W.osa_eq, refuse_eq]
  refine wpAny_bind (wpAny_bind (I.type.at (wpAny_bind (l1.at ?_))))
  rw [hm, refuseLoop_ref, W.excTail_pass _ (SF.passes _) _ ht]
  refine wpAny_pure (wpAny_bind (I.type.at (wpAny_bind ((W.looks_findIn X ha).at (wpAny_bind (l3.at ?_))))))
  exact hq

/-- the first field of an exception -/
theorem osa_new {K : W.Frag} {name : Str} {tk : Tok} {v : Value} {x C : Addr} {fv : Array Value} {cd : ClassData} {bm : List Value}
    (SF : StoreFacts B bmB "object.__setattr__" "object") (X : K.In hp)
    (hx : hp.get? x = some { cls := .ref C, data := .fields fv }) (hcd : W.clsIn K C = some cd)
    (hm : cd.mro = .ref C :: bm) (ht : W.excTail bmB bm = true) (hh : cd.hasDict = true) (ha : W.findIn K (.ref C) name = some none)
    (hq : ∀ h' tk' dx, (∀ b o, b ≠ x → hp.get? b = some o → h'.get? b = some o) → hp.objs.size ≤ dx → dx ≠ x →
      h'.get? x = some { cls := .ref C, dict := some dx, data := .fields fv } →
      h'.Ns1 dx (fun y => if y = name then some v else none) → R (.ok (.ret .none)) ⟨h', g, d, tk', os⟩) :
    codeAny (model prog w) A (.call (.builtin "object.__setattr__") ⟨[.ref x, .str name tk, v], []⟩) R ⟨hp, g, d, t, os⟩ := by
  have I : W.InstAt hp x { cls := .ref C, data := .fields fv } C none := ⟨hx, rfl, rfl, trivial⟩
  have hxs : x ≠ hp.objs.size := Nat.ne_of_lt (Heap.lt_size hx)
  have hcls : W.Looks (model prog w) hp (classData C) cd := W.looks_clsIn X hcd
  refine osa_head SF X I hcd hm ht ha ?_
  obtain ⟨nm, bs, mro, ns, qn, hd, sn, sb, ab, col, del⟩ := cd
  dsimp only at hh
  subst hh
  unfold storeInOwnDict ownDictForStores
  repeat (first
    | with_reducible refine HandSPX.store_in_new ?_ ?_
    | with_reducible refine wpAny_loadPart_at hx ?_
    | with_reducible refine hcls.at ?_
    | wp_step)
  · exact ⟨_, #[], _, (Heap.get?_update_ne _ _ _ _ hxs.symm).trans (Heap.get?_push_at rfl rfl), rfl, fun e he => absurd he (by simp), fun _ => rfl⟩
  · intro h' tk' hn' hs
    have h1 : (hp.push { cls := .type "dict", data := .dict #[] }).get? x = some { cls := .ref C, data := .fields fv } := by
      exact Heap.get?_push_of_some _ hx
    refine hq h' tk' hp.objs.size (fun b o hb ho => ?_) (Nat.le_refl _) hxs.symm ?_ hn'
    · have e1 := hs.2 b (Nat.ne_of_lt (Heap.lt_size ho))
      exact e1.trans ((Heap.get?_update_ne _ _ _ _ hb).trans (Heap.get?_push_of_some _ ho))
    · have e1 := hs.2 x hxs
      exact e1.trans (Heap.get?_update_self _ h1 rfl)

/-- a further field -/
theorem osa_more {K : W.Frag} {name : Str} {tk : Tok} {v : Value} {x C dx : Addr} {fv : Array Value} {cd : ClassData} {bm : List Value}
    {m0 : Str → Option Value} {nl : List Str} (SF : StoreFacts B bmB "object.__setattr__" "object") (X : K.In hp)
    (hx : hp.get? x = some { cls := .ref C, dict := some dx, data := .fields fv }) (hns : hp.Ns1 dx m0) (hw : Within m0 nl) (hz : nl.length ≤ 1000)
    (hcd : W.clsIn K C = some cd) (hm : cd.mro = .ref C :: bm) (ht : W.excTail bmB bm = true) (hh : cd.hasDict = true) (ha : W.findIn K (.ref C) name = some none)
    (hq : ∀ h' tk', (∀ b o, b ≠ dx → hp.get? b = some o → h'.get? b = some o) →
      h'.Ns1 dx (fun y => if y = name then some v else m0 y) → R (.ok (.ret .none)) ⟨h', g, d, tk', os⟩) :
    codeAny (model prog w) A (.call (.builtin "object.__setattr__") ⟨[.ref x, .str name tk, v], []⟩) R ⟨hp, g, d, t, os⟩ := by
  obtain ⟨oD, esD, epD, hoD, hdD, _⟩ := hns.count hw
  have I : W.InstAt hp x { cls := .ref C, dict := some dx, data := .fields fv } C (some oD) := ⟨hx, rfl, rfl, hoD⟩
  have hcls : W.Looks (model prog w) hp (classData C) cd := W.looks_clsIn X hcd
  refine osa_head SF X I hcd hm ht ha ?_
  obtain ⟨nm, bs, mro, ns, qn, hd, sn, sb, ab, col, del⟩ := cd
  dsimp only at hh
  subst hh
  unfold storeInOwnDict ownDictForStores
  repeat (first
    | with_reducible refine OEX.store_in_old hns hw hz ?_
    | with_reducible refine wpAny_loadPart_at hx ?_
    | with_reducible refine hcls.at ?_
    | wp_step)
  intro h' tk' hn' hs
  exact hq h' tk' (fun b o hb ho => (hs.2 b hb).trans ho) hn'
end
end Exv
end PySem

namespace Exv
open PySem L2 Lay PyProof.Rows
/-- a built-in base class of errors, as the library tells it -/
structure Bs (B newId initId : String) (bmB : List Value) : Prop where
  fb : ExcBaseFacts B newId initId bmB
  sf : StoreFacts B bmB "object.__setattr__" "object"
theorem bsV : Bs "ValueError" "ValueError.__new__" "ValueError.__init__" [.type "ValueError", .type "Exception", .type "BaseException", .type "object"] := ⟨F.excBase_ValueError, F.store_ValueError⟩
theorem bsL : Bs "LookupError" "LookupError.__new__" "LookupError.__init__" [.type "LookupError", .type "Exception", .type "BaseException", .type "object"] := ⟨F.excBase_LookupError, F.store_LookupError⟩
theorem bsR : Bs "RuntimeError" "RuntimeError.__new__" "RuntimeError.__init__" [.type "RuntimeError", .type "Exception", .type "BaseException", .type "object"] := ⟨F.excBase_RuntimeError, F.store_RuntimeError⟩
theorem bsA : Bs "ArithmeticError" "ArithmeticError.__new__" "ArithmeticError.__init__" [.type "ArithmeticError", .type "Exception", .type "BaseException", .type "object"] := ⟨F.excBase_ArithmeticError, F.store_ArithmeticError⟩

/-- an error of the class at C: its own dict (none as yet), the tuple of what it was made of -/
def exo (e C : Addr) (d : Option Addr) (t : Addr) : HO :=
  .ext fun h => h.get? e = some ({ cls := .ref C, dict := d, data := .fields #[.ref t, .none, .none, .none, .bool false, .none] } : Obj)
theorem exo_ok {P : Program} {w : World} {H : Hp} {h : Heap} {e C t : Addr} {d : Option Addr}
    (he : h.get? e = some ({ cls := .ref C, dict := d, data := .fields #[.ref t, .none, .none, .none, .bool false, .none] } : Obj)) : ObjOk P w H h e (exo e C d t) :=
  ⟨he, ⟨_, he⟩, fun _ _ _ k => k _ ‹_›⟩
theorem exo_at {P : Program} {w : World} {H : Hp} {h : Heap} {e C t : Addr} {d : Option Addr} (ok : HOk P w H h) (x : H e = some (exo e C d t)) :
    h.get? e = some ({ cls := .ref C, dict := d, data := .fields #[.ref t, .none, .none, .none, .bool false, .none] } : Obj) := by
  have y : ObjOk P w H h e (.ext fun h => h.get? e = some ({ cls := .ref C, dict := d, data := .fields #[.ref t, .none, .none, .none, .bool false, .none] } : Obj)) := ok e _ x
  exact y.1
theorem exo_plain {e C t : Addr} {d : Option Addr} : plainO (exo e C d t) = true := rfl
theorem exd_plain {e : Addr} {fs : List (Str × V)} : plainO (exd e fs) = true := rfl
/-- what the written part says of an error's class -/
structure Cl (K : PySem.W.Frag) (C : Addr) (newId : String) (bmB : List Value) : Prop where
  cls : ∃ nm q N bs bm sn sub ab col dd k0 k1 k2 k3 k5, K.lookup C = some (excClassObj nm q C N bs bm true sn sub ab col dd k0 k1 k2 k3 k5 newId) ∧ PySem.W.excTail bmB bm = true
  sa : PySem.W.findIn K (.ref C) "__setattr__" = some (some (.builtin "object.__setattr__"))
  ga : PySem.W.findIn K (.ref C) "__getattribute__" = some (some (.builtin "BaseException.__getattribute__"))
  gg : PySem.W.findIn K (.ref C) "__getattr__" = some none
  exC : PySem.W.subIn K (.ref C) (.type "BaseException") = some true
  tyC : PySem.W.typeIn K (.ref C) = some (.type "type")
  kC : PySem.W.keepIn K (.ref C) = true
  hd : PySem.W.hasDictIn K C = true
  ha : PySem.W.findIn K (.ref C) "__class__" = some (some (.builtin "object.__class__"))
  hm : PySem.W.mroIn K C (.type "object") = some true
section
variable {X : Cx} {pins : List (Addr × Obj)} {σ : L2.St} {H : Hp} {s : Shared} {a C dx t1 : Addr} {f : Str} {y : V} {u : Value} {fs : List (Str × V)}
variable {Q : Unit → Shared → Prop} {E : Value → Shared → Prop} {A : Around} {B newId initId : String} {bmB : List Value}
theorem plain_ne_own {o : HO} (p : plainO o = true) {x : Addr} (e : H a = some o) {c : Addr} (z : H c = some (.own x)) : c ≠ a := fun q => by
  subst q; rw [e] at z; cases z; cases p
theorem plain_ne_tup {o : HO} (p : plainO o = true) {xs : List V} (e : H a = some o) {c : Addr} (z : H c = some (.tup xs)) : c ≠ a := fun q => by
  subst q; rw [e] at z; cases z; cases p
theorem plain_ne_frz {o : HO} (p : plainO o = true) {ob : Obj} {v : HO} (e : H a = some o) {c : Addr} (z : H c = some (.frz ob v)) : c ≠ a := fun q => by
  subst q; rw [e] at z; cases z; cases p
theorem plain_ne_tbl {o : HO} (p : plainO o = true) {ps : Array Value} (e : H a = some o) {c : Addr} (z : H c = some (.tbl ps)) : c ≠ a := fun q => by
  subst q; rw [e] at z; cases z; cases p
theorem Cl.cd (T : Cl X.K C newId bmB) : ∃ cd bm, PySem.W.clsIn X.K C = some cd ∧ cd.mro = .ref C :: bm ∧ PySem.W.excTail bmB bm = true ∧ cd.hasDict = true := by
  obtain ⟨nm, q, N, bs, bm, sn, sub, ab, col, dd, k0, k1, k2, k3, k5, hC, hbm⟩ := T.cls
  refine ⟨{ name := nm, bases := bs, mro := .ref C :: bm, ns := N, qualname := q, hasDict := true, slotNames := sn, subclasses := sub, abstract := ab, collection := col, hasDel := false }, bm, ?_, rfl, hbm, rfl⟩
  unfold PySem.W.clsIn
  rw [hC] <;> rfl
/-- self.f = y, the first one -/
theorem st_new (b : Bs B newId initId bmB) (T : Cl X.K C newId bmB) (I : Inv X pins σ H s) (e : H a = some (exo a C none t1)) (hno : PySem.W.findIn X.K (.ref C) f = some none) (ry : RelV y u)
    (h : ∀ dx s', H dx = none → dx ≠ a → Inv X pins σ (upd (upd H dx (exd dx [(f, y)])) a (exo a C (some dx) t1)) s' → Q () s') :
    wpAny (model X.prog X.w) A (setAttr (.ref a) f u) Q E s := by
  obtain ⟨cd, bm, hcl, hm, ht, hh⟩ := T.cd
  have ho := exo_at I.hok e
  obtain ⟨hp, g, d, t, os⟩ := s
  refine PySem.W.set_plain I.kIn (ox := { cls := .ref C, dict := none, data := .fields #[.ref t1, .none, .none, .none, .bool false, .none] }) (od := none) ⟨ho, rfl, rfl, trivial⟩ T.sa ?_
  refine PySem.Exv.osa_new b.sf I.kIn ho hcl hm ht hh hno (fun h' tk' dx k dn dne hx hn => ?_)
  have hnd : H dx = none := I.hok.fresh dn
  have nd : ∀ {b : Addr} {o : Obj}, hp.get? b = some o → b ≠ dx := fun {b o} q => Nat.ne_of_lt (Nat.lt_of_lt_of_le (Heap.lt_size q) dn)
  have na : ∀ {b : Addr}, H b = none → b ≠ a := fun {b} n z => by rw [z, e] at n; cases n
  have P1 := exo_plain (e := a) (C := C) (t := t1) (d := none)
  have U : Un X.fs [] H (upd (upd H dx (exd dx [(f, y)])) a (exo a C (some dx) t1)) hp h' := {
    keep := fun b o q n _ _ => k b o (na n) q
    slot := fun b o q n _ _ => ⟨o.slots, k b o (na n) q⟩
    free := fun b o q n _ => by rw [upd_ne (na n), upd_ne (nd q)]; exact n
    there := fun b o q _ => by
      by_cases hb : b = a
      · exact ⟨_, by rw [hb]; exact hx⟩
      · exact ⟨o, k b o hb q⟩
    tups := fun b xs q => by rw [upd_ne (plain_ne_tup P1 e q), upd_ne (ne_of_none q hnd)]; exact q
    frzs := fun b o v q => by rw [upd_ne (plain_ne_frz P1 e q), upd_ne (ne_of_none q hnd)]; exact q
    tbls := fun b ps q => ⟨#[], by rw [upd_ne (plain_ne_tbl P1 e q), upd_ne (ne_of_none q hnd), q]; simp⟩ }
  refine h dx _ hnd dne (I.un (t' := tk') U fun b o q => ?_)
  by_cases hb : b = a
  · subst hb; rw [upd_same] at q; cases q
    exact exo_ok hx
  · rw [upd_ne hb] at q
    by_cases hd : b = dx
    · subst hd; rw [upd_same] at q; cases q
      exact exd_ok hn (relO_put (fs := []) ry fun g => True.intro)
    · rw [upd_ne hd] at q
      refine (I.hok b o q).stay (fun c v hc z => k c v ?_ z) (fun c hc => ?_) fun c xs hc => ?_
      · rcases hc with hc | hc
        · rw [hc]; exact hb
        · exact plain_ne_own P1 e hc
      · rw [upd_ne (plain_ne_own P1 e hc), upd_ne (ne_of_none hc hnd)]; exact hc
      · rw [upd_ne (plain_ne_tup P1 e hc), upd_ne (ne_of_none hc hnd)]; exact hc
/-- self.f = y, a further one -/
theorem st_old (b : Bs B newId initId bmB) (T : Cl X.K C newId bmB) (I : Inv X pins σ H s) (e : H a = some (exo a C (some dx) t1)) (ed : H dx = some (exd dx fs)) (hl : fs.length ≤ 900)
    (hno : PySem.W.findIn X.K (.ref C) f = some none) (ry : RelV y u) (h : ∀ s', Inv X pins σ (upd H dx (exd dx ((f, y) :: fs))) s' → Q () s') :
    wpAny (model X.prog X.w) A (setAttr (.ref a) f u) Q E s := by
  obtain ⟨cd, bm, hcl, hm, ht, hh⟩ := T.cd
  have ho := exo_at I.hok e
  obtain ⟨mA, hns, rel⟩ := exd_at I.hok ed
  have hw := within_of rel
  obtain ⟨hp, g, d, t, os⟩ := s
  obtain ⟨oD, _, _, hoD, _, _⟩ := hns.count hw
  refine PySem.W.set_plain I.kIn (ox := { cls := .ref C, dict := some dx, data := .fields #[.ref t1, .none, .none, .none, .bool false, .none] }) (od := some oD) ⟨ho, rfl, rfl, hoD⟩ T.sa ?_
  refine PySem.Exv.osa_more b.sf I.kIn ho hns hw (by rw [List.length_map]; omega) hcl hm ht hh hno (fun h' tk' k hn => ?_)
  have hd : ∃ o, h'.get? dx = some o := by
    obtain ⟨o, _, _, e', _⟩ := hn
    exact ⟨o, e'⟩
  exact h _ (I.write (t' := tk') (x := dx) (e := dx) (o := exd dx ((f, y) :: fs)) (by rw [ed]; exact True.intro) (.inl rfl) k hd (exd_ok hn (relO_put ry rel)))
/-- e.f, e an error -/
theorem at_get {expr : Bool} {Q : Value → Shared → Prop} (T : Cl X.K C newId bmB) (I : Inv X pins σ H s) (e : H a = some (exo a C (some dx) t1)) (ed : H dx = some (exd dx fs)) (hf : fs.lookup f = some y)
    (hno : PySem.W.findIn X.K (.ref C) f = some none) (h : ∀ u s', RelV y u → Inv X pins σ H s' → Q u s') : wpAny (model X.prog X.w) A (getAttr (.ref a) f expr) Q E s := by
  have ho := exo_at I.hok e
  obtain ⟨mA, hns, rel⟩ := exd_at I.hok ed
  obtain ⟨od, hod, hl⟩ := lookIn_ns hns
  obtain ⟨u, hu, ru⟩ := RelO.some_of (v := y) (o := mA f) (by rw [← hf]; exact rel f)
  have J : PySem.W.InstAt s.heap a { cls := .ref C, dict := some dx, data := .fields #[.ref t1, .none, .none, .none, .bool false, .none] } C (some od) := ⟨ho, rfl, rfl, hod⟩
  exact HandSPX.exc_get I.kIn J T.ga T.gg T.exC (PySem.W.findObj_own T.hd hno rfl (by rw [hl, hu])) (handed_of ru) (h u _ ru (I.tok _))
end
end Exv

set_option Elab.async false
set_option linter.all false
set_option maxRecDepth 100000
set_option maxHeartbeats 4000000
namespace Exv
open PySem L2 Lay PyProof.Rows
/-- at a stands an error of the class at C with these fields, made of args -/
def IsExc (H : Hp) (a C : Addr) (fs : List (Str × V)) (args : List V) : Prop :=
  ∃ t, H t = some (.tup args) ∧ ((fs = [] ∧ H a = some (exo a C none t)) ∨ ∃ d, H a = some (exo a C (some d) t) ∧ H d = some (exd d fs))
theorem IsExc.same {H H' : Hp} {a C : Addr} {fs : List (Str × V)} {args : List V} (e : L2.Same H H') (h : IsExc H a C fs args) : IsExc H' a C fs args := by
  obtain ⟨t, ht, h⟩ := h
  refine ⟨t, e _ _ ht, ?_⟩
  rcases h with ⟨z, h⟩ | ⟨d, h, hd⟩
  · exact .inl ⟨z, e _ _ h⟩
  · exact .inr ⟨d, e _ _ h, e _ _ hd⟩
/-- what an error's __init__ promises: the fields mk of what it was handed -/
def spI (C : Addr) (n : Nat) (mk : List V → List (Str × V)) : Sp := fun vs H Q _ => ∃ (a t : Addr) (ws : List V), vs = .ref a :: ws ∧ ws.length = n ∧ H a = some (exo a C none t) ∧
  ∀ H', (∀ b o, b ≠ a → H b = some o → H' b = some o) →
    ((mk ws = [] ∧ H' a = some (exo a C none t)) ∨ ∃ d, H' a = some (exo a C (some d) t) ∧ H' d = some (exd d (mk ws))) → Q .non H'
section
variable {X : Cx} {pins : List (Addr × Obj)} {σ : L2.St} {H : Hp} {s : Shared} {C fI : Addr} {B newId initId : String} {bmB : List Value}
variable {k n : Nat} {fd : FuncData} {ps ks : List Str} {mk : List V → List (Str × V)} {g : List Value → List Value → List Value} {gV : List V → List V → List V}
theorem run_mk {Q : VK} {us ws : List Value} {vs zs : List V} {fs : List (Str × V)} (b : Bs B newId initId bmB) (T : Cl X.K C newId bmB)
    (hi : PySem.W.findIn X.K (.ref C) "__init__" = some (some (.ref fI))) (tI : PySem.W.typeIn X.K (.ref fI) = some (.type "function"))
    (F : FnOk X.prog X.w X.K X.mg X.base CX0 k fI fd ps (spI C n mk)) (hr : Room (k + 1) X.A) (hb : KBinds X.K fd ps ks g gV)
    (I : Inv X pins σ H s) (r : Vals vs us) (rz : Vals zs ws) (hz : us.length ≤ sizeLine)
    (hg : ∀ a, ∃ yl, gV (.ref a :: vs) zs = .ref a :: yl ∧ yl.length = n ∧ mk yl = fs)
    (h : ∀ a H2, H a = none → L2.Same H H2 → IsExc H2 a C fs vs → Q (.ref a) H2) :
    wpAny (model X.prog X.w) X.A (call (.ref C) us (ks.zip ws)) (EP X pins σ Q) X.xe s := by
  obtain ⟨nm, q, N, bs, bm, sn, sub, ab, col, dd, k0, k1, k2, k3, k5, hC, hbm⟩ := T.cls
  obtain ⟨hp, gn, dr, tk, os⟩ := s
  have n0 : H hp.objs.size = none := I.hok.fresh (Nat.le_refl _)
  have n1 : H (hp.objs.size + 1) = none := I.hok.fresh (Nat.le_succ _)
  have sz : (hp.push (PySem.W.kdv_tup us)).objs.size = hp.objs.size + 1 := Heap.size_push _ _
  have I1 : Inv X pins σ (upd H hp.objs.size (.tup vs)) ⟨hp.push (PySem.W.kdv_tup us), gn, dr, tk, os⟩ :=
    I.laid (t' := tk) (a := hp.objs.size) (o := .tup vs) (h' := hp.push (PySem.W.kdv_tup us)) (fun b o e => Heap.get?_push_of_some _ e) (Nat.le_refl _)
      ⟨by rw [r.length]; exact hz, us, r, ⟨_, Heap.get?_push_size _ rfl, rfl, _, rfl⟩⟩
  have hget : ((hp.push (PySem.W.kdv_tup us)).push (PySem.HandSPX.excO C hp.objs.size)).get? (hp.objs.size + 1) = some (PySem.HandSPX.excO C hp.objs.size) := by heap_get
  have I2 : Inv X pins σ (upd (upd H hp.objs.size (.tup vs)) (hp.objs.size + 1) (exo (hp.objs.size + 1) C none hp.objs.size))
      ⟨(hp.push (PySem.W.kdv_tup us)).push (PySem.HandSPX.excO C hp.objs.size), gn, dr, tk, os⟩ :=
    I1.laid (t' := tk) (a := hp.objs.size + 1) (o := exo (hp.objs.size + 1) C none hp.objs.size)
      (h' := (hp.push (PySem.W.kdv_tup us)).push (PySem.HandSPX.excO C hp.objs.size)) (fun b o e => Heap.get?_push_of_some _ e)
      (by show (hp.push (PySem.W.kdv_tup us)).objs.size ≤ _; rw [sz]; exact Nat.le_refl _) (exo_ok hget)
  obtain ⟨yl, eg, ly, em⟩ := hg (hp.objs.size + 1)
  have ne : hp.objs.size ≠ hp.objs.size + 1 := (Nat.succ_ne_self _).symm
  have hsp : spI C n mk (gV (.ref (hp.objs.size + 1) :: vs) zs) (upd (upd H hp.objs.size (.tup vs)) (hp.objs.size + 1) (exo (hp.objs.size + 1) C none hp.objs.size))
      (fun v H2 => v = .non ∧ Q (.ref (hp.objs.size + 1)) H2) E0 := by
    refine ⟨hp.objs.size + 1, hp.objs.size, yl, eg, ly, upd_same, fun H' kp hh => ⟨rfl, h _ _ n1 (fun b o e => ?_) ⟨hp.objs.size, ?_, ?_⟩⟩⟩
    · refine kp b o (ne_of_none e n1) ?_
      rw [upd_ne (ne_of_none e n1), upd_ne (ne_of_none e n0)]; exact e
    · refine kp _ _ ne ?_
      rw [upd_ne ne, upd_same]
    · rw [em] at hh; exact hh
  have r2 : Vals (gV (.ref (hp.objs.size + 1) :: vs) zs) (g (.ref (hp.objs.size + 1) :: us) ws) := hb.rel (.cons rfl r) rz
  have hl : (g (.ref (hp.objs.size + 1) :: us) ws).length = ps.length := by rw [← r2.length]; exact F.len _ _ _ _ hsp
  refine wpAny_call (PySem.Exv.call_kw b.fb (fun Y => PySem.W.excTail_contains Y bm hbm) (I.kIn _ _ hC) (PySem.W.looks_findIn I.kIn hi) (fun self => PySem.W.bind_fn I.kIn self tI) hz
    (codeAny_mono (F.run _ X.stack _ _ ⟨.ref (hp.objs.size + 1) :: us, ks.zip ws⟩ _ _ _ E0 (hr.make C us (ks.zip ws)) (I2.env0.make C us (ks.zip ws)) (hb.to _ _ _ I2.kIn hl) r2 hsp) fun rr s' hq => ?_))
  cases rr with
  | error er => exact False.elim hq
  | ok fl =>
    cases fl with
    | ret u =>
      obtain ⟨v, H', I3, rv, ev, q3⟩ := I2.after hq
      subst ev
      exact ⟨rv, ⟨V.ref (hp.objs.size + 1), H', I3, rfl, q3⟩⟩
    | next => exact False.elim hq
    | brk => exact False.elim hq
    | cont => exact False.elim hq
end

/-- a class of errors of the text: all that a call of it needs; n fields, which mk tells of what was handed to __init__ -/
structure Ec (P : Program) (w : World) (K : PySem.W.Frag) (mg : Str → Option Value) (base : Heap) (x : Str) (C : Addr) (newId : String) (bmB : List Value) (ps : List Str) (n : Nat) (mk : List V → List (Str × V)) : Prop where
  g : mg x = some (.ref C)
  cl : Cl K C newId bmB
  ini : ∃ fI fd, PySem.W.findIn K (.ref C) "__init__" = some (some (.ref fI)) ∧ PySem.W.typeIn K (.ref fI) = some (.type "function") ∧ FnOk P w K mg base CX0 1 fI fd ps (spI C n mk) ∧
    (∀ us : List Value, us.length = ps.length → bindArgs fd ⟨us, []⟩ = pure (ps.zip us)) ∧
    (∀ (s0 : Value) (ws : List Value), ws.length = n → ∀ ks : List Str, ks ++ [("self" : Str)] = ps.reverse → bindArgs fd ⟨[s0], ks.zip ws⟩ = pure (ps.zip (s0 :: ws.reverse)))
theorem kb_pos {K : PySem.W.Frag} {fd : FuncData} {ps : List Str} (h : ∀ us : List Value, us.length = ps.length → bindArgs fd ⟨us, []⟩ = pure (ps.zip us)) : KBinds K fd ps [] (fun us _ => us) (fun vs _ => vs) :=
  ⟨fun s us ws _ hl => .of_eq (h us hl), fun r _ => r⟩

section
variable {X : Cx} {x : Str} {C : Addr} {B newId initId : String} {bmB : List Value} {ps ks : List Str} {n : Nat} {mk : List V → List (Str × V)} {e : Expr} {es : List Expr} {t : TA} {p pos : Pos}
/-- C(..) -/
def tMkE (C : Addr) (n : Nat) (mk : List V → List (Str × V)) (t : TA) : TE := fun σ H Q => t σ H fun vs H1 => vs.length = n ∧ ∀ a H2, H1 a = none → L2.Same H1 H2 → IsExc H2 a C (mk vs) vs → Q (.ref a) H2
theorem pe_mk (b : Bs B newId initId bmB) (D : Ec X.prog X.w X.K X.mg X.base x C newId bmB ps n mk) (hn : n ≤ 1000) (hr : Room 2 X.A) (ha : PA X (e :: es) t) (hg : Gl X x := by rfl)
    (hdb : (x == ("__debug__" : Str)) = false := by decide) (he : starEach (e :: es) X.env = (false, eval e X.env) :: starEach es X.env := by rfl) (hpl : (backTo pos (starEach es X.env)).any (·.1) = false := by rfl) :
    PE X (.Call (.Name x p) (e :: es) [] pos) (tMkE C n mk t) := by
  obtain ⟨fI, fd, hi, tI, F, hb, _⟩ := D.ini
  refine ⟨fun pins s σ H Q I h => ?_⟩
  refine wpAny_Call_Name_kw (ld_glob I hg D.g ?_ hdb)
  refine PySem.W.callWith_K (h₀ := X.base) I.ok.mod.kin D.cl.kC (thn (ha.run pos pins s σ H _ I h) fun us s1 ⟨vs, H1, I1, r, l, q⟩ => ⟨I1.kIn, ?_⟩) he hpl
  refine run_mk (ws := []) (zs := []) b D.cl hi tI F hr (kb_pos hb) I1 r .nil ?_ (fun a => ⟨vs, rfl, l, rfl⟩) q
  rw [List.nil_append, ← r.length, l]
  exact Nat.le_trans hn (by decide)
theorem pe_mk0 (b : Bs B newId initId bmB) (D : Ec X.prog X.w X.K X.mg X.base x C newId bmB ps 0 mk) (hr : Room 2 X.A) (hg : Gl X x := by rfl)
    (hdb : (x == ("__debug__" : Str)) = false := by decide) : PE X (.Call (.Name x p) [] [] pos) (tMkE C 0 mk tNil) := by
  obtain ⟨fI, fd, hi, tI, F, hb, _⟩ := D.ini
  refine ⟨fun pins s σ H Q I h => ?_⟩
  refine wpAny_Call_Name_kw (ld_glob I hg D.g ?_ hdb)
  refine PySem.W.callWith_K0 I.kIn D.cl.kC ?_
  exact run_mk (us := []) (ws := []) (vs := []) (zs := []) b D.cl hi tI F hr (kb_pos hb) I .nil .nil (Nat.zero_le _) (fun a => ⟨[], rfl, rfl, rfl⟩) h.2
/-- C(k = v, ..): all by keywords, the last parameter first -/
def tMkK (C : Addr) (n : Nat) (mk : List V → List (Str × V)) (tk : TA) : TE := fun σ H Q => tk σ H fun zs H1 => zs.length = n ∧ ∀ a H2, H1 a = none → L2.Same H1 H2 → IsExc H2 a C (mk zs.reverse) [] → Q (.ref a) H2
theorem paired_rev {xs : List V} {us : List Value} (r : Vals xs us) : Vals xs.reverse us.reverse := by
  induction r with
  | nil => exact .nil
  | cons h t ih => rw [List.reverse_cons, List.reverse_cons]; exact ih.append (.cons h .nil)
theorem pe_mkK {kws : List Keyword} {tk : TA} (b : Bs B newId initId bmB) (D : Ec X.prog X.w X.K X.mg X.base x C newId bmB ps n mk) (hks2 : ks ++ [("self" : Str)] = ps.reverse) (hr : Room 2 X.A) (hkw : PK X kws tk) (hg : Gl X x := by rfl)
    (hall : (backToKw pos (keywordEach kws X.env)).all (·.1.isSome) = true := by rfl) (hks : (backToKw pos (keywordEach kws X.env)).filterMap (·.1) = ks := by rfl)
    (hdb : (x == ("__debug__" : Str)) = false := by decide) (hpl : ((backTo pos (starEach [] X.env)).any (·.1) || (backToKw pos (keywordEach kws X.env)).any (·.1.isNone)) = false := by rfl) :
    PE X (.Call (.Name x p) [] kws pos) (tMkK C n mk tk) := by
  obtain ⟨fI, fd, hi, tI, F, _, hb⟩ := D.ini
  have hn : ps.length = n + 1 := by
    have z := F.len (.ref 0 :: List.replicate n .non) (upd (fun _ => none) 0 (exo 0 C none 0)) (fun _ _ => True) E0 ⟨0, 0, _, rfl, List.length_replicate, upd_same, fun _ _ _ => trivial⟩
    rw [← z]; simp
  refine ⟨fun pins s σ H Q I h => ?_⟩
  refine wpAny_Call_Name_kw (ld_glob I hg D.g ?_ hdb)
  refine PySem.W.callWith_KW0 (h₀ := X.base) I.ok.mod.kin D.cl.kC hall ?_ hpl
  refine thn (hkw.run pos pins s σ H _ I h) fun ws s2 ⟨zs, H2, I2, rz, l, q2⟩ => ⟨I2.kIn, ?_⟩
  rw [hks]
  have kb : KBinds X.K fd ps ks (fun us ws => if us.length = 1 ∧ ws.length = n then us ++ ws.reverse else []) (fun vs zs => if vs.length = 1 ∧ zs.length = n then vs ++ zs.reverse else []) := by
    refine ⟨fun s us ws _ hl => ?_, fun {vs us zs ws} r rz => ?_⟩
    · by_cases c : us.length = 1 ∧ ws.length = n
      · rw [if_pos c]
        match us, c.1 with
        | [u], _ => exact .of_eq (hb u ws c.2 ks hks2)
      · rw [if_neg c, hn] at hl
        cases hl
    · have e1 : vs.length = us.length := r.length
      have e2 : zs.length = ws.length := rz.length
      show Vals (if vs.length = 1 ∧ zs.length = n then vs ++ zs.reverse else []) (if us.length = 1 ∧ ws.length = n then us ++ ws.reverse else [])
      rw [e1, e2]
      by_cases c : us.length = 1 ∧ ws.length = n
      · rw [if_pos c, if_pos c]; exact r.append (paired_rev rz)
      · rw [if_neg c, if_neg c]; exact .nil
  exact run_mk (us := []) (vs := []) b D.cl hi tI F hr kb I2 .nil rz (Nat.zero_le _) (fun a => ⟨zs.reverse, if_pos ⟨rfl, l⟩, by rw [List.length_reverse]; exact l, rfl⟩) q2
end
end Exv

set_option Elab.async false
set_option linter.all false
set_option maxRecDepth 100000
set_option maxHeartbeats 4000000
namespace PySem
namespace Exv
open PySem.W PySem.Calls PyProof.Rows
section
variable {prog : Program} {w : World} {A : Around} {E : Value → Shared → Prop} {s : Shared} {K : Frag} {x D : Addr} {ox : Obj} {od : Option Obj}
/-- the class of an error, asked as an attribute -/
theorem kin_cls {Q : Option Value → Shared → Prop} (hga : findIn K (.ref D) "__getattribute__" = some (some (.builtin "BaseException.__getattribute__")))
    (hgt : findIn K (.ref D) "__getattr__" = some none) (hsub : subIn K (.ref D) (.type "BaseException") = some true)
    (hf : findObj K D od "__class__" = some (.bind (.builtin "getset_descriptor.__get__") (.builtin "object.__class__"))) (hm : mroIn K D (.type "object") = some true)
    (X : K.In s.heap) (I : InstAt s.heap x ox D od) (h : Q (some (.ref D)) { s with toks := s.toks + 1 }) : wpAny (model prog w) A (getAttr? (.ref x) "__class__") Q E s := by
  obtain ⟨hp, g, d, t, os⟩ := s
  have l0 := I.type (M := model prog w)
  have l1 := looks_findIn (M := model prog w) X hga
  have l2 := looks_findIn (M := model prog w) X hgt
  have l3 := looks_find (M := model prog w) X I hf
  have sub : Looks (model prog w) hp (isInstance (.ref x) (.type "BaseException")) true := l0.andThen (looks_subIn X hsub)
  have z0 : (false && onTheHeap (Value.builtin "BaseException.__getattribute__")) = false := rfl
  have z2 : (Value.builtin "BaseException.__getattribute__" == Value.builtin "object.__getattribute__") = false := by decide +kernel
  have z1 : (onTheHeap (Value.ref D) && Value.builtin "BaseException.__getattribute__" == Value.builtin "object.__getattribute__") = false := by
    rw [z2]
    rfl
  unfold getAttr? getAttrBy? getAttrBy
  refine wpAny_bind (wpAny_mkText (wpAny_bind (wpAny_attempt (wpAny_holding (wpAny_bind (l0.at (wpAny_bind (l1.at ?_))))))))
  show wpAny _ _ (if (onTheHeap (Value.ref D) && Value.builtin "BaseException.__getattribute__" == Value.builtin "object.__getattribute__") = true then _ else _) _ _ _
  rw [z1, if_neg Bool.false_ne_true]
  unfold getAttrByItsOwn hookBefore
  refine wpAny_bind ?_
  rw [if_pos (show onTheHeap (Value.ref D) = true from rfl)]
  refine l2.at ?_
  refine wpAny_bind (wpAny_attempt (wpAny_holding ?_))
  unfold callGetattribute
  rw [z0, if_neg Bool.false_ne_true]
  unfold boundAndCalled
  rw [PySem.F.excAttr_ValueError.ga.bind (.ref x)]
  refine wpAny_bind (wpAny_pure ?_)
  show wpAny _ _ (call (.builtin "BaseException.__getattribute__") [.ref x, .str "__class__" t]) _ _ _
  refine wpAny_call (codeAny_call_builtin PySem.F.excAttr_ValueError.ga.plain PySem.F.entry_bexc_ga ?_)
  refine @check_slot (model prog w) _ _ ⟨hp, g, d, t + 1, os⟩ "BaseException.__getattribute__" "BaseException" "__getattribute__" (.ref x) [.str "__class__" t] [] _
    (by decide +kernel) (by decide +kernel) sub (PySem.F.args_bexc_ga (.ref x) (.str "__class__" t)) ?_
  unfold Builtin.«object.__getattribute__»
  refine wpAny_bind (wpAny_of_eq (a := ((Value.ref x : Value), [Value.str "__class__" t])) (by first | rfl | (simp only [slotArgs]; rfl)) ?_)
  refine wpAny_bind (wpAny_pure (wpAny_bind (l0.at (wpAny_bind (l3.at ?_)))))
  show wpAny _ _ (holding [Value.builtin "object.__class__"] (call (.builtin "getset_descriptor.__get__") [.builtin "object.__class__", .ref x, .ref D]) >>= ret) _ _ _
  refine wpAny_bind (wpAny_holding (wpAny_call (class_get (s := ⟨hp, g, d, t + 1, os⟩) (ox := ox) (od := od) X I hm ?_)))
  refine wpAny_pure ?_
  show wpAny _ _ (handedOut (.ref D)) _ _ _
  rw [handedOut_of (v := .ref D) rfl]
  first
    | exact wpAny_pure (wpAny_pure h)
    | exact wpAny_pure h
    | exact wpAny_pure (wpAny_bind (wpAny_pure (wpAny_pure h)))
theorem kit_exc (hga : findIn K (.ref D) "__getattribute__" = some (some (.builtin "BaseException.__getattribute__")))
    (hgt : findIn K (.ref D) "__getattr__" = some none) (hsub : subIn K (.ref D) (.type "BaseException") = some true) (hd : hasDictIn K D = true)
    (hf : findObj K D od "__class__" = some (.bind (.builtin "getset_descriptor.__get__") (.builtin "object.__class__"))) (hm : mroIn K D (.type "object") = some true) :
    KitX K (.ref x) (.ref D) (fun h => InstAt h x ox D od) where
  ty := fun _ _ _ I => I.type
  it := fun _ _ X _ => by
    obtain ⟨cdD, hcD, _⟩ := any_some hd
    unfold clsIn at hcD
    split at hcD
    · rename_i c' d' cd' sl' ho
      intro A' Q' E' s' k q
      unfold isType loadHead
      exact wpAny_bind (wpAny_loadPart (k _ _ (X _ _ ho)) (wpAny_pure q))
    · cases hcD
  ne := fun h tp dd its n sl X htp => by
    obtain ⟨cdD, hcD, _⟩ := any_some hd
    refine Bool.eq_false_iff.mpr fun q => ?_
    have e : D = tp := Value.ref.inj (beq_iff_eq.mp q)
    subst e
    unfold clsIn at hcD
    split at hcD
    · rename_i c' d' cd' sl' ho
      have z := (X _ _ ho).symm.trans htp
      cases z
    · cases hcD
  ca := fun X I k => kin_cls hga hgt hsub hf hm X I k
end
end Exv
end PySem

namespace Exv
open PySem L2 Lay PyProof.Rows
/-- what isinstance asks of the written part, once -/
structure Gs (K : PySem.W.Frag) : Prop where
  hn : PySem.W.specialIn K (.builtin "object.__class__") "__get__" = some (some (.builtin "getset_descriptor.__get__"))
  ht : PySem.W.takesIn K (.builtin "object.__class__") = some true
/-- a value's kind: those of the library, or an own error -/
inductive TyE (K : PySem.W.Frag) (H : Hp) : V → Value → Prop where
  | base {x : V} {t : Value} (h : TyX K H x t) : TyE K H x t
  | exc {a C : Addr} {fs : List (Str × V)} {args : List V} {newId : String} {bmB : List Value} (h : IsExc H a C fs args) (T : Cl K C newId bmB) : TyE K H (.ref a) (.ref C)
def rIsE (K : PySem.W.Frag) : List V → Hp → VK → Prop := fun xs H Q => ∃ (x c : V) (t u : Value) (b : Bool), xs = [x, c] ∧ ClsV c u ∧ TyE K H x t ∧ PySem.W.kitOne K t u = some b ∧ Q (.bl b) H
/-- e.f, e an error -/
def tAt (K : PySem.W.Frag) (f : Str) (te : TE) : TE := fun σ H Q => te σ H fun x H1 => ∃ (a C : Addr) (fs : List (Str × V)) (args : List V) (v : V), x = .ref a ∧ IsExc H1 a C fs args ∧
  (∃ newId bmB, Cl K C newId bmB) ∧ PySem.W.findIn K (.ref C) f = some none ∧ fs.lookup f = some v ∧ Q v H1
/-- self.f = e, self an error -/
def tSt (K : PySem.W.Frag) (newId : String) (bmB : List Value) (f : Str) (to te : TE) : TS := fun D σ H => te σ H fun y H1 => to σ H1 fun x H2 => ∃ a C t1 : Addr, x = .ref a ∧ Cl K C newId bmB ∧ PySem.W.findIn K (.ref C) f = some none ∧
  ((H2 a = some (exo a C none t1) ∧ ∀ dx, H2 dx = none → dx ≠ a → D.nx σ (upd (upd H2 dx (exd dx [(f, y)])) a (exo a C (some dx) t1))) ∨
    ∃ (dx : Addr) (fs : List (Str × V)), H2 a = some (exo a C (some dx) t1) ∧ H2 dx = some (exd dx fs) ∧ fs.length ≤ 900 ∧ D.nx σ (upd H2 dx (exd dx ((f, y) :: fs))))
section
variable {X : Cx} {o e : Expr} {to te : TE} {f : Str} {p p' pos : Pos} {B newId initId : String} {bmB : List Value}
theorem ps_st (b : Bs B newId initId bmB) (ho : PE X o to) (he : PE X e te) (hs : swapsWith e (some (.Attribute o f p')) pos.line X.env = pure false := by rfl) : PS X (.Assign [.Attribute o f p'] e pos) (tSt X.K newId bmB f to te) := by
  refine ⟨fun pins s σ H D I h => ?_⟩
  refine plainObj_wpAny_Assign_Attribute (thn (he.run pins s σ H _ I h) fun v s1 ⟨y, H1, I1, r1, q1⟩ => thn (ho.run pins s1 σ H1 _ I1 q1) fun u s2 ⟨x, H2, I2, r2, a, C, t1, ex, T, hno, q⟩ => ?_) hs
  subst ex
  obtain rfl : u = Value.ref a := r2
  rcases q with ⟨ea, q⟩ | ⟨dx, fs, ea, ed, hl, q⟩
  · exact st_new b T I2 ea hno r1 fun dx s' n ne J => ⟨σ, _, J, q dx n ne⟩
  · exact st_old b T I2 ea ed hl hno r1 fun s' J => ⟨σ, _, J, q⟩
theorem pe_at (he : PE X e te) (hb : attributeBase e f X.env (eval e X.env) = eval e X.env := by rfl) : PE X (.Attribute e f pos) (tAt X.K f te) := by
  refine ⟨fun pins s σ H Q I h => ?_⟩
  refine attr_of hb (thn (he.run pins s σ H _ I h) fun u s1 ⟨x, H1, I1, rx, a, C, fs, args, v, ex, hx, ⟨newId, bmB, T⟩, hno, hl, q⟩ => ?_)
  subst ex
  obtain rfl : u = Value.ref a := rx
  obtain ⟨t, ht, hx⟩ := hx
  rcases hx with ⟨z, hx⟩ | ⟨d, hx, hd⟩
  · subst z; cases hl
  · exact at_get T I1 hx hd hl hno fun u' s2 ru J => ⟨v, H1, J, ru, q⟩
theorem call_isE (G : Gs X.K) : CallR X (.builtin "isinstance") (rIsE X.K) := by
  intro pins s σ H xs us Q I r h
  obtain ⟨x, c, t, u, b, rfl, k, ty, e, q⟩ := h
  cases ty with
  | base ty => exact call_isi pins s σ H _ us Q I r ⟨x, c, t, u, b, rfl, k, ty, e, q⟩
  | @exc a C fs args newId bmB hx T =>
    obtain ⟨u1, u2, rfl, r1, r2⟩ := vals2 r
    have e2 := k.eq r2
    subst e2
    cases (show u1 = Value.ref a from r1)
    obtain ⟨t, ht, hx⟩ := hx
    have hc : (PySem.W.clsIn X.K C).isSome = true := by
      obtain ⟨cd, bm, h1, _⟩ := T.cd
      rw [h1]; rfl
    rcases hx with ⟨z, hx⟩ | ⟨d, hx, hd⟩
    · have J : PySem.W.InstAt s.heap a _ C none := ⟨exo_at I.hok hx, rfl, rfl, trivial⟩
      exact PySem.W.kia_one (PySem.Exv.kit_exc T.ga T.gg T.exC T.hd (PySem.W.findObj_dataN hc T.ha G.hn G.ht) T.hm) I.kIn J e (fun z => nomatch z) fun tk => ⟨.bl b, H, I.tok tk, rfl, q⟩
    · obtain ⟨mA, hns, rel⟩ := exd_at I.hok hd
      obtain ⟨od, hod, hl⟩ := lookIn_ns hns
      have J : PySem.W.InstAt s.heap a _ C (some od) := ⟨exo_at I.hok hx, rfl, rfl, hod⟩
      exact PySem.W.kia_one (PySem.Exv.kit_exc T.ga T.gg T.exC T.hd (PySem.W.findObj_data hc T.ha G.hn G.ht) T.hm) I.kIn J e (fun z => nomatch z) fun tk => ⟨.bl b, H, I.tok tk, rfl, q⟩
end

/-! ### the three shapes of __init__ -/
def mk0 : List V → List (Str × V) := fun _ => []
def mk1 (f : Str) : List V → List (Str × V)
  | [v] => [(f, v)]
  | _ => []
def mk2 (f g : Str) : List V → List (Str × V)
  | [v, u] => [(g, u), (f, v)]
  | _ => []
section
variable {P : Program} {w : World} {K : PySem.W.Frag} {mg : Str → Option Value} {base : Heap} {C fI : Addr} {fd : FuncData} {qual : Str} {st : Stmt} {B newId initId : String} {bmB : List Value} {f g : Str}
theorem init0 {q : Pos} (F : Fun K "__init__" qual st fI fd) (S : FnScope ["self"] ["self"] (defScope st)) (hb : defBody st = [.Pass q]) : FnOk P w K mg base CX0 1 fI fd ["self"] (spI C 0 mk0) := by
  refine F.ok S (fun vs H Q E h => ?_) (fun cdv A outer s H vs Q E hr h => ?_)
  · obtain ⟨a, t, ws, rfl, l, _⟩ := h
    show ws.length + 1 = 1
    rw [l]
  · obtain ⟨a, t, ws, rfl, l, ha, k⟩ := h
    rw [hb]
    exact ⟨_, pss_one ps_pass, k H (fun _ _ _ e => e) (.inl ⟨rfl, ha⟩)⟩
theorem init1 {q1 q2 q3 q4 : Pos} (b : Bs B newId initId bmB) (F : Fun K "__init__" qual st fI fd) (S : FnScope ["self", f] ["self", f] (defScope st)) (hb : defBody st = [.Assign [.Attribute (.Name "self" q1) f q2] (.Name f q3) q4])
    (hd1 : (f == ("__debug__" : Str)) = false) (hd2 : (f == ("__classdict__" : Str)) = false) (T : Cl K C newId bmB) (no : PySem.W.findIn K (.ref C) f = some none)
    (hsw : ∀ env, swapsWith (.Name f q3) (some (.Attribute (.Name "self" q1) f q2)) q4.line env = pure false) : FnOk P w K mg base CX0 1 fI fd ["self", f] (spI C 1 (mk1 f)) := by
  refine F.ok S (fun vs H Q E h => ?_) (fun cdv A outer s H vs Q E hr h => ?_)
  · obtain ⟨a, t, ws, rfl, l, _⟩ := h
    show ws.length + 1 = 2
    rw [l]
  · obtain ⟨a, t, ws, rfl, l, ha, k⟩ := h
    rw [hb]
    match ws, l with
    | [v], _ =>
      refine ⟨_, pss_one (ps_st b (pe_var (i := 0) rfl ((S.par "self" (List.Mem.head _)).elim .inl fun z => .inr (.inl z))) (pe_var (i := 1) rfl ((S.par f (.tail _ (List.Mem.head _))).elim .inl fun z => .inr (.inl z)) hd1 hd2) (hsw _)), ?_⟩
      refine ⟨v, rfl, .ref a, rfl, a, C, t, rfl, T, no, .inl ⟨ha, fun dx nd ne => ?_⟩⟩
      refine k _ (fun b o n e => ?_) (.inr ⟨dx, upd_same, ?_⟩)
      · rw [upd_ne n, upd_ne (ne_of_none e nd)]; exact e
      · rw [upd_ne ne, upd_same]; rfl
theorem init2 {q1 q2 q3 q4 q5 q6 q7 q8 : Pos} (b : Bs B newId initId bmB) (F : Fun K "__init__" qual st fI fd) (S : FnScope ["self", f, g] ["self", f, g] (defScope st))
    (hb : defBody st = [.Assign [.Attribute (.Name "self" q1) f q2] (.Name f q3) q4, .Assign [.Attribute (.Name "self" q5) g q6] (.Name g q7) q8])
    (hd1 : (f == ("__debug__" : Str)) = false) (hd2 : (f == ("__classdict__" : Str)) = false) (hd3 : (g == ("__debug__" : Str)) = false) (hd4 : (g == ("__classdict__" : Str)) = false)
    (T : Cl K C newId bmB) (no : PySem.W.findIn K (.ref C) f = some none) (no2 : PySem.W.findIn K (.ref C) g = some none)
    (hsw : ∀ env, swapsWith (.Name f q3) (some (.Attribute (.Name "self" q1) f q2)) q4.line env = pure false) (hsw2 : ∀ env, swapsWith (.Name g q7) (some (.Attribute (.Name "self" q5) g q6)) q8.line env = pure false) :
    FnOk P w K mg base CX0 1 fI fd ["self", f, g] (spI C 2 (mk2 f g)) := by
  refine F.ok S (fun vs H Q E h => ?_) (fun cdv A outer s H vs Q E hr h => ?_)
  · obtain ⟨a, t, ws, rfl, l, _⟩ := h
    show ws.length + 1 = 3
    rw [l]
  · obtain ⟨a, t, ws, rfl, l, ha, k⟩ := h
    rw [hb]
    match ws, l with
    | [v, u], _ =>
      have vs := (S.par "self" (List.Mem.head _)).elim (fun z => (.inl z : Vis _ _)) fun z => .inr (.inl z)
      refine ⟨_, pss_cons (ps_st b (pe_var (i := 0) rfl ((S.par "self" (List.Mem.head _)).elim .inl fun z => .inr (.inl z))) (pe_var (i := 1) rfl ((S.par f (.tail _ (List.Mem.head _))).elim .inl fun z => .inr (.inl z)) hd1 hd2) (hsw _))
        (pss_one (ps_st b (pe_var (i := 0) rfl ((S.par "self" (List.Mem.head _)).elim .inl fun z => .inr (.inl z))) (pe_var (i := 2) rfl ((S.par g (.tail _ (.tail _ (List.Mem.head _)))).elim .inl fun z => .inr (.inl z)) hd3 hd4) (hsw2 _))), ?_⟩
      refine ⟨v, rfl, .ref a, rfl, a, C, t, rfl, T, no, .inl ⟨ha, fun dx nd ne => ?_⟩⟩
      refine ⟨u, rfl, .ref a, rfl, a, C, t, rfl, T, no2, .inr ⟨dx, _, upd_same, by rw [upd_ne ne, upd_same], by show 1 ≤ 900; decide, ?_⟩⟩
      refine k _ (fun b o n e => ?_) (.inr ⟨dx, ?_, ?_⟩)
      · rw [upd_ne (ne_of_none e nd), upd_ne n, upd_ne (ne_of_none e nd)]; exact e
      · rw [upd_ne ne.symm, upd_same]
      · rw [upd_same]; rfl
end
end Exv

set_option Elab.async false
set_option linter.all false
set_option maxRecDepth 100000
set_option maxHeartbeats 4000000
namespace PySem
namespace Exv
open Builtin Builtin.Str Builtin.BaseException Builtin.Exceptions
section
variable {prog : Program} {w : World} {A : Around} {E : Value → Shared → Prop} {K : W.Frag} {e C t0 : Addr} {hp : Heap} {g : Array GenState} {d : Drawn} {t : Nat} {os : OsState}
/-- BaseException.__repr__ of an own error that was made of other than one thing -/
theorem bexc_own {b : Nat} {Q : Fin → Shared → Prop} {ox : Obj} {od : Option Obj} {cd : ClassData} {fv : Array Value} {items : List Value} {tt : Str}
    (X : K.In hp) (I : W.InstAt hp e ox C od) (hcd : W.clsIn K C = some cd) (hd : ox.data = .fields fv) (h0 : fv[0]? = some (.ref t0))
    (ht : hp.TupAt t0 items) (hi : items.length ≠ 1) (hb : b + (Str.ofString ((cd.name.toString.cutAt '.').getLastD "")).length ≤ sizeLine)
    (hr : ∀ Q' : Str → Shared → Prop, (∀ h' tk, (∀ b o, hp.get? b = some o → h'.get? b = some o) → Q' tt ⟨h', g, d, tk, os⟩) →
      wpAny (model prog w) A (pyReprUnder (b + (Str.ofString ((cd.name.toString.cutAt '.').getLastD "")).length) (.ref t0)) Q' E ⟨hp, g, d, t, os⟩)
    (hz : (Str.ofString ((cd.name.toString.cutAt '.').getLastD "") ++ tt).length ≤ sizeLine)
    (hq : ∀ h' u tk, (∀ b o, hp.get? b = some o → h'.get? b = some o) → Q (.done (.ret (.str (Str.ofString ((cd.name.toString.cutAt '.').getLastD "") ++ tt) u))) ⟨h', g, d, tk, os⟩) :
    wpAny (model prog w) A (Builtin.bexcReprAt b ⟨[.ref e], []⟩) Q E ⟨hp, g, d, t, os⟩ := by
  have l0 := I.type (M := model prog w)
  have hcls : W.Looks (model prog w) hp (classData C) cd := W.looks_clsIn X hcd
  obtain ⟨ot, k, hto, _, htd⟩ := ht
  unfold Builtin.bexcReprAt typeNameOfWhole shownTypeOf typeNameWhole bexcArgs
  repeat (first
    | with_reducible refine l0.at ?_
    | with_reducible refine hcls.at ?_
    | with_reducible refine wpAny_field I.1 hd h0 ?_
    | with_reducible refine wpAny_seqItems hto htd ?_
    | wp_step)
  have fin : wpAny (model prog w) A (do
      let z ← pyReprUnder (b + (Str.ofString ((cd.name.toString.cutAt '.').getLastD "")).length) (.ref t0)
      retStr (Str.ofString ((cd.name.toString.cutAt '.').getLastD "") ++ z)) Q E ⟨hp, g, d, t, os⟩ := by
    refine wpAny_bind (hr _ fun h' tk kp => ?_)
    repeat wp_step
    exact hq h' _ _ kp
  have e1 : items.toArray.toList = items := by simp
  rw [e1]
  match items, hi with
  | [], _ => exact fin
  | x :: y :: r, _ => exact fin

/-- its text, within another's -/
theorem repr_exc {as : List Addr} {h0 : Heap} {dp : Nat} {ox : Obj} {od : Option Obj} {cd : ClassData} {fv : Array Value} {items : List Value} {ts : List Str}
    (X : K.In h0) (hX : ∀ hh : Heap, (∀ b o, h0.get? b = some o → hh.get? b = some o) → W.InstAt hh e ox C od) (hcd : W.clsIn K C = some cd)
    (hrp : W.findIn K (.ref C) "__repr__" = some (some (.builtin "BaseException.__repr__"))) (hsub : W.subIn K (.ref C) (.type "BaseException") = some true)
    (hd : ox.data = .fields fv) (hf : fv[0]? = some (.ref t0)) (ht : h0.TupAt t0 items) (hi : items.length ≠ 1) (hn : t0 ∉ as)
    (hk : ReprAllK prog w as h0 dp items ts) :
    ReprK prog w (t0 :: as) h0 (dp + 2) (.ref e) (Str.ofString ((cd.name.toString.cutAt '.').getLastD "") ++ tupleText ts) := by
  intro base hb A g E s Q hg hcl hu hk0 hQ
  have hl : base + ((Str.ofString ((cd.name.toString.cutAt '.').getLastD "")).length + (tupleText ts).length) ≤ sizeLine := by
    rw [← strLen_append]; exact hb
  refine wpAny_pyReprUnder_ref (by omega) ?_
  have I := hX _ hk0
  have Xs : K.In s.heap := X.keeps hk0
  have l0 := I.type (M := model prog w)
  have l1 := W.looks_findIn (M := model prog w) Xs hrp
  have bnd : ∀ self, bindSpecial (.builtin "BaseException.__repr__") self = pure (.builtin "BaseException.__repr__", [self]) := F.excStr_ValueError.repr.toG.bind
  have sub : W.Looks (model prog w) s.heap (isInstance (.ref e) (.type "BaseException")) true := l0.andThen (W.looks_subIn Xs hsub)
  obtain ⟨ot, k, hto, htc, htd⟩ := id ht
  have core : wpAny (model prog w) A (call (.builtin "BaseException.__repr__.under") [.ref e, rawInt base])
      (fun v s' => (∃ x u, v = .str x u) ∧ ∃ x u, v = .str x u ∧ Q x s') E s := by
    refine wpAny_call (codeAny_call_builtin F.plain_bexc_repr_under F.entry_bexc_repr_under ?_)
    rw [F.check_bexc_repr_under]
    refine wpAny_pure ?_
    show wpAny _ _ (reprTwin "BaseException.__repr__" Builtin.bexcReprAt ⟨[.ref e, rawInt base], []⟩) _ _ _
    rw [reprTwin_eq]
    refine wpAny_bind (@W.check_slot (model prog w) _ _ s "BaseException.__repr__" "BaseException" "__repr__" (.ref e) [] [] _ (by decide +kernel) (by decide +kernel) sub (F.args_bexc_repr _) ?_)
    obtain ⟨hp, gn, dr, tk, os⟩ := s
    refine bexc_own (K := K) (tt := tupleText ts) Xs I hcd hd hf ⟨ot, k, hk0 _ _ hto, htc, htd⟩ hi (by omega) (fun Q' hq' => ?_) (by rw [strLen_append]; omega) (fun h' u tk kp => ?_)
    · exact ReprK.tuple hto htc htd hn (by simpa using hk) _ (by omega) A.in1 g _ _ Q' (by simpa using hg) hcl (by show A.units + 1 + (dp + 1) < cLine; omega) hk0 fun h' tk kp => hq' h' tk kp
    · exact ⟨⟨_, _, rfl⟩, _, _, rfl, hQ h' tk kp⟩
  unfold pyReprObjUnder pyReprObjBy
  refine wpAny_bind (wpAny_cRoomFor (by omega) ?_)
  unfold specialOf
  refine wpAny_bind (wpAny_bind (l0.at (l1.at ?_)))
  simp only [Option.isNone_some, Bool.false_eq_true, if_false]
  refine wpAny_bind ?_
  simp only [callSpecialIfBoundBy?, bindSpecialIfBound?, specialOf]
  refine wpAny_holding (wpAny_bind (wpAny_bind (wpAny_bind (l0.at (l1.at ?_)))))
  simp only [bnd]
  refine wpAny_bind (wpAny_askSetting (wpAny_ite ?_))
  have fin : wpAny (model prog w) A (call (.builtin "BaseException.__repr__.under") [.ref e, rawInt base] >>= fun v => pure (some v))
      (fun o s' => wpAny (model prog w) A (match o with
        | some r => (do
          let b ← isInstance r (.type "str")
          if b = true then pure r else do
            let z ← typeNameOf r
            raiseErrorMade "TypeError" (toString "__repr__ returned non-string (type " ++ toString z ++ toString ")"))
        | none => unsupported "repr:special-get-raises") (fun v s' => ∃ x u, v = .str x u ∧ Q x s') E s') E s := by
    refine wpAny_bind (wpAny_mono core (fun v s' hv => wpAny_pure ?_) fun _ _ x => x)
    obtain ⟨⟨x, u, rfl⟩, hq⟩ := hv
    exact wpAny_bind (wpAny_isInstance (T := "str") (b := true) rfl isSubtype_str_str (wpAny_pure hq))
  split
  · exact wpAny_bind (wpAny_pure (wpAny_pure fin))
  · exact wpAny_tryCatch (wpAny_bind (wpAny_pure (wpAny_pure fin)))
end
end Exv
end PySem

set_option Elab.async false
set_option linter.all false
set_option maxRecDepth 100000
set_option maxHeartbeats 4000000
namespace Rp
open PySem L2 Lay Exv
/-- what an own error's class tells for its text -/
structure ClR (K : PySem.W.Frag) (C : Addr) (nm : Str) : Prop where
  cl : ∃ newId bmB, Cl K C newId bmB
  cd : ∃ cd, PySem.W.clsIn K C = some cd ∧ Str.ofString ((cd.name.toString.cutAt '.').getLastD "") = nm
  rp : PySem.W.findIn K (.ref C) "__repr__" = some (some (.builtin "BaseException.__repr__"))
mutual
/-- the text of a value, over what is tracked; the containers within -/
inductive Sw (K : PySem.W.Frag) (H : Hp) : List Addr → V → Str → Prop where
  | non : Sw K H [] .non "None"
  | bl (b : Bool) : Sw K H [] (.bl b) (if b then "True" else "False")
  | int (i : Int) (h : i.natAbs.log2 < 1920) : Sw K H [] (.int i) (toString i)
  | str (z : Str) : Sw K H [] (.str z) (reprText z)
  | lst0 {a : Addr} (h : H a = some (.lst [])) : Sw K H [] (.ref a) "[]"
  | lst {a : Addr} {as : List Addr} {x : V} {xs : List V} {ts : List Str} (h : H a = some (.lst (x :: xs))) (l : SwL K H as (x :: xs) ts) (n : a ∉ as) : Sw K H (a :: as) (.ref a) (listText ts)
  | tup {a : Addr} {as : List Addr} {xs : List V} {ts : List Str} (h : H a = some (.tup xs)) (l : SwL K H as xs ts) (n : a ∉ as) : Sw K H (a :: as) (.ref a) (tupleText ts)
  | dct {a : Addr} {as : List Addr} {kvs : List (Key × V)} {ks ts : List Str} (h : H a = some (.dK kvs)) (l1 : SwL K H [] (kvs.map fun p => kV p.1) ks) (l : SwL K H as (kvs.map (·.2)) ts) (n : a ∉ as) :
      Sw K H (a :: as) (.ref a) (dictText ((ks.zip ts).map fun p => p.1 ++ ": " ++ p.2))
  | exc {a C : Addr} {t : Addr} {as : List Addr} {xs : List V} {ts : List Str} {nm : Str} (d : Addr) {fs : List (Str × V)} (h : H a = some (exo a C (some d) t)) (hd : H d = some (exd d fs)) (ht : H t = some (.tup xs)) (R : ClR K C nm) (l : SwL K H as xs ts)
      (n : t ∉ as) (hl : xs.length ≠ 1) : Sw K H (t :: as) (.ref a) (nm ++ tupleText ts)
inductive SwL (K : PySem.W.Frag) (H : Hp) : List Addr → List V → List Str → Prop where
  | nil : SwL K H [] [] []
  | cons {as bs : List Addr} {x : V} {t : Str} {xs : List V} {ts : List Str} (h : Sw K H as x t) (l : SwL K H bs xs ts) : SwL K H (as ++ bs) (x :: xs) (t :: ts)
end
section
variable {P : Program} {w : World} {K : PySem.W.Frag} {H : Hp} {h : Heap}
theorem all_at {as : List Addr} {d : Nat} : ∀ {us : List Value} {ts : List Str}, ReprAllK P w as h d us ts → ∀ (i : Nat) (y : Value), us[i]? = some y → ∃ t, ts[i]? = some t ∧ ReprK P w as h d y t
  | _, _, .nil, i, y, e => by simp at e
  | _, _, .cons r l, 0, y, e => by simp at e; subst e; exact ⟨_, rfl, r⟩
  | _, _, .cons r l, i + 1, y, e => by
    obtain ⟨t, h1, h2⟩ := all_at l i y (by simpa using e)
    exact ⟨t, by simpa using h1, h2⟩
theorem all_more {as as' : List Addr} {d d' : Nat} (hs : ∀ b ∈ as, b ∈ as') (hd : d ≤ d') : ∀ {us : List Value} {ts : List Str}, ReprAllK P w as h d us ts → ReprAllK P w as' h d' us ts
  | _, _, .nil => .nil
  | _, _, .cons r l => .cons ((r.more hs).level_le hd) (all_more hs hd l)
theorem keys_vals : ∀ {es : List DictEntry} {vs : List (Key × Value)} {kvs : List (Key × V)}, Pairs (mixKind P w) es vs → KV kvs vs → Vals (kvs.map fun p => kV p.1) (es.map (·.key)) ∧ Vals (kvs.map (·.2)) (es.map (·.val))
  | _, _, _, .nil, .nil => ⟨.nil, .nil⟩
  | e :: es, (k, v) :: vs, (k', v') :: kvs, .cons h1 h2 l, .cons r rr => by
    obtain ⟨a, b⟩ := keys_vals l rr
    obtain ⟨e1, r1⟩ := r
    have e1' : k' = k := e1
    subst e1'
    refine ⟨.cons ?_ a, .cons (by show RelV v' e.val; rw [h2]; exact r1) b⟩
    have z : keyIs k' e.key = true := h1
    rcases keyIs_shape z with ⟨i, t, rfl, e2⟩ | ⟨x, t, rfl, e2⟩
    · exact ⟨t, e2⟩
    · exact ⟨t, e2⟩
theorem ents {as : List Addr} {d : Nat} : ∀ {es : List DictEntry} {ks ts : List Str}, ReprAllK P w as h d (es.map (·.key)) ks → ReprAllK P w as h d (es.map (·.val)) ts → ReprEntriesK P w as h d es ((ks.zip ts).map fun p => p.1 ++ ": " ++ p.2)
  | [], _, _, .nil, .nil => .nil
  | e :: es, _, _, .cons k1 l1, .cons k2 l2 => .cons k1 k2 (ents l1 l2)
theorem swl_len : ∀ {as : List Addr} {xs : List V} {ts : List Str}, SwL K H as xs ts → xs.length = ts.length
  | _, _, _, .nil => rfl
  | _, _, _, .cons _ l => by rw [List.length_cons, List.length_cons, swl_len l]
theorem mem_l {l1 l2 : List Str} (hl : l1.length = l2.length) {t : Str} (ht : t ∈ l1) : ∃ p ∈ (l1.zip l2).map (fun p => p.1 ++ (": " : Str) ++ p.2), t.length ≤ p.length := by
  obtain ⟨i, hi, e⟩ := List.getElem_of_mem ht
  refine ⟨l1[i] ++ (": " : Str) ++ l2[i], List.mem_map.mpr ⟨(l1[i], l2[i]), List.mem_iff_getElem.mpr ⟨i, by simp; omega, by simp⟩, rfl⟩, ?_⟩
  rw [← e, strLen_append, strLen_append]; omega
theorem mem_r {l1 l2 : List Str} (hl : l1.length = l2.length) {t : Str} (ht : t ∈ l2) : ∃ p ∈ (l1.zip l2).map (fun p => p.1 ++ (": " : Str) ++ p.2), t.length ≤ p.length := by
  obtain ⟨i, hi, e⟩ := List.getElem_of_mem ht
  refine ⟨l1[i] ++ (": " : Str) ++ l2[i], List.mem_map.mpr ⟨(l1[i], l2[i]), List.mem_iff_getElem.mpr ⟨i, by simp; omega, by simp⟩, rfl⟩, ?_⟩
  rw [← e, strLen_append]; omega
mutual
theorem sw_repr (ok : HOk P w H h) (X : K.In h) : ∀ {as : List Addr} {x : V} {t : Str} {u : Value}, Sw K H as x t → RelV x u → t.length ≤ sizeLine → ReprK P w as h (2 * as.length) u t
  | _, _, _, _, .non, r, _ => by cases (show _ = Value.none from r); exact .of_is ReprIs.none _ _ _
  | _, _, _, _, .bl b, r, _ => by cases (show _ = Value.bool b from r); exact .of_is (ReprIs.bool b) _ _ _
  | _, _, _, _, .int i hi, r, _ => by obtain ⟨t, e⟩ := r; subst e; exact .of_is (ReprIs.int t hi) _ _ _
  | _, _, _, _, .str z, r, hz => by obtain ⟨t, e⟩ := r; subst e; exact .of_is (ReprIs.str z t hz) _ _ _
  | _, _, _, _, .lst0 (a := a) e, r, _ => by
    cases (show _ = Value.ref a from r)
    obtain ⟨_, its, n, rv, e1⟩ := (show ObjOk P w H h a (.lst []) from ok a _ e)
    cases rv
    exact ReprK.listEmpty e1 rfl rfl
  | _, _, _, _, .lst (a := a) (as := as) (x := x) (xs := xs) (ts := ts) e l n, r, hz => by
    cases (show _ = Value.ref a from r)
    obtain ⟨_, its, m, rv, e1⟩ := (show ObjOk P w H h a (.lst (x :: xs)) from ok a _ e)
    have al := swl_repr ok X l rv (fun t ht => Nat.le_trans (listText_mem_le ht) hz)
    cases its with
    | nil => cases rv
    | cons y ys =>
      have k := ReprK.list e1 rfl rfl n (by simpa using al.length_eq) (fun i z q => all_at al i z (by simpa using q))
      exact k.level_le (by simp; omega)
  | _, _, _, _, .tup (a := a) (as := as) (xs := xs) (ts := ts) e l n, r, hz => by
    cases (show _ = Value.ref a from r)
    obtain ⟨_, its, rv, o, e1, e2, m, e3⟩ := (show ObjOk P w H h a (.tup xs) from ok a _ e)
    have al := swl_repr ok X l rv (fun t ht => Nat.le_trans (tupleText_mem_le ht) hz)
    have k := ReprK.tuple e1 e2 e3 n (by simpa using al)
    exact k.level_le (by simp; omega)
  | _, _, _, _, .dct (a := a) (as := as) (kvs := kvs) (ks := ks) (ts := ts) e l1 l n, r, hz => by
    cases (show _ = Value.ref a from r)
    obtain ⟨_, sy, vs, kv, ob, es, ep, e1, e2, e3, _, e4, _⟩ := (show ObjOk P w H h a (.dK kvs) from ok a _ e)
    obtain ⟨va, vb⟩ := keys_vals e4 kv
    have ll : ks.length = ts.length := by rw [← swl_len l1, ← swl_len l]; simp
    have a1 := swl_repr ok X l1 va (fun t ht => by
      obtain ⟨p, hp, hl⟩ := mem_l ll ht
      exact Nat.le_trans hl (Nat.le_trans (dictText_mem_le hp) hz))
    have a2 := swl_repr ok X l vb (fun t ht => by
      obtain ⟨p, hp, hl⟩ := mem_r ll ht
      exact Nat.le_trans hl (Nat.le_trans (dictText_mem_le hp) hz))
    have k := ReprK.dict e1 e2.1 e3 sy n (ents (all_more (fun b hb => absurd hb (by simp)) (by simp) a1) a2)
    exact k.level_le (by simp; omega)
  | _, _, _, _, .exc (a := a) (C := C) (t := t) (as := as) (xs := xs) (ts := ts) d e ed et R l n hl, r, hz => by
    cases (show _ = Value.ref a from r)
    obtain ⟨_, its, rv, o, e1, e2, m, e3⟩ := (show ObjOk P w H h t (.tup xs) from ok t _ et)
    obtain ⟨newId, bmB, T⟩ := R.cl
    obtain ⟨cd, hcd, hnm⟩ := R.cd
    subst hnm
    have al := swl_repr ok X l rv (fun t ht => Nat.le_trans (tupleText_mem_le ht) (Nat.le_trans (by rw [strLen_append]; exact Nat.le_add_left _ _) hz))
    have ho := exo_at ok e
    obtain ⟨mA, hns, rel⟩ := exd_at ok ed
    obtain ⟨od, hod, _⟩ := lookIn_ns hns
    have k := PySem.Exv.repr_exc (prog := P) (w := w) (e := a) (C := C) (t0 := t) X (fun hh kp => (⟨kp _ _ ho, rfl, rfl, kp _ _ hod⟩ : PySem.W.InstAt hh a _ C (some od))) hcd R.rp T.exC rfl rfl ⟨o, m, e1, e2, e3⟩ (by rw [← rv.length]; exact hl) n al
    exact k.level_le (by simp; omega)
theorem swl_repr (ok : HOk P w H h) (X : K.In h) : ∀ {as : List Addr} {xs : List V} {ts : List Str} {us : List Value}, SwL K H as xs ts → Vals xs us → (∀ t ∈ ts, t.length ≤ sizeLine) → ReprAllK P w as h (2 * as.length) us ts
  | _, _, _, _, .nil, r, _ => by cases r; exact .nil
  | _, _, _, _, .cons (as := as) (bs := bs) s l, r, hz => by
    cases r with
    | cons rx rr =>
      have k := sw_repr ok X s rx (hz _ (List.mem_cons_self ..))
      have al := swl_repr ok X l rr (fun t ht => hz t (List.mem_cons_of_mem _ ht))
      exact .cons ((k.more fun b hb => List.mem_append_left _ hb).level_le (by simp; omega)) (all_more (fun b hb => List.mem_append_right _ hb) (by simp; omega) al)
end
end
/-- repr of a list of at least one item -/
def rRepr (K : PySem.W.Frag) : List V → Hp → VK → Prop := fun xs H Q => ∃ (p : Addr) (as : List Addr) (ys : List V) (ts : List Str), xs = [.ref p] ∧ H p = some (.lst ys) ∧ SwL K H as ys ts ∧ ys ≠ [] ∧ p ∉ as ∧ as.length ≤ 30 ∧
  (listText ts).length ≤ sizeLine ∧ Q (.str (listText ts)) H
section
variable {X : Cx}
theorem call_repr (hg : X.A.guards = some []) (hu : X.A.units + 200 < cLine) : CallR X (.builtin "repr") (rRepr X.K) := by
  intro pins s σ H xs us Q I r h
  obtain ⟨p, as, ys, ts, rfl, hp, l, ne, hn, ha, hz, q⟩ := h
  obtain ⟨u, rfl, e⟩ := vals1 r
  cases (show u = Value.ref p from e)
  obtain ⟨_, its, m, rv, e1⟩ := (show ObjOk X.prog X.w H s.heap p (.lst ys) from I.hok p _ hp)
  have al := swl_repr I.hok I.kIn l rv (fun t ht => Nat.le_trans (listText_mem_le ht) hz)
  cases its with
  | nil => cases rv; exact absurd rfl ne
  | cons y yr =>
    refine call_repr_slot (by omega) ⟨_, e1, rfl⟩ F.slot_list_repr.toG ?_
    refine call_list_reprK (A := X.A.in1) e1 rfl rfl hn (by simpa using al.length_eq) (fun i z q => all_at al i z (by simpa using q)) (g := []) (by simpa using hg) (fun b _ => Clear.nil b) (by show X.A.units + 1 + (2 * as.length + 1) < cLine; omega)
      (fun _ _ e => e) (fun h' u tk kp => ⟨_, _, rfl, ⟨.str (listText ts), H, I.kept (t' := tk) kp, ⟨_, rfl⟩, q⟩⟩) hz
end
end Rp

set_option Elab.async false
set_option linter.all false
set_option maxRecDepth 100000
set_option maxHeartbeats 4000000
namespace Lay
open PySem L2
/-- a comprehension whose elements are told by themselves -/
theorem lc_pure {J : It} {n : Nat} {G : Hp → Prop} {Y : Nat → Hp → V → Hp → Prop} (wk : Walk J n G Y) {g : TG} {tt : TT} {te : TE} {vs : List Nat} {σ : L2.St} {H1 : Hp} {D : Addr} {Qd : Hp → Prop} (nD : H1 D = none) (hn : n < 100000)
    (hG : ∀ H, L2.Same H1 H → G H) (R : Nat → V → Prop)
    (hs : ∀ i x H H' (Kn : V → Hp → Prop) (Z : Hp → Prop), i < n → L2.Same H1 H → Y i H x H' → (∀ y H4, L2.Same H H4 → R i y → Kn y H4) →
      g x (wipe σ vs) H' fun σ2 H2 => wipe σ2 vs = wipe σ vs ∧ tt σ2 H2 fun b H3 => if b = true then te σ2 H3 Kn else Z H3)
    (hd : ∀ H xs, L2.Same H1 H → H D = some (.lst xs) → xs.length = n → (∀ i y, xs[i]? = some y → R i y) → Qd H) :
    ∃ W : Nat → Nat → Hp → Prop, (∃ m, W 0 m (upd H1 D (.lst []))) ∧ ∀ i m H, W i m H →
      (J.stop i H ∧ Qd H) ∨ (J.go i H ∧ ∃ Nx : Hp → Prop, (∀ H', Nx H' → ∃ m', m' < m ∧ W (i + 1) m' H') ∧ ∀ x H', J.yld i H x H' → g x (wipe σ vs) H' fun σ2 H2 => wipe σ2 vs = wipe σ vs ∧ tt σ2 H2 fun b H3 =>
        if b = true then te σ2 H3 fun y H4 => ∃ acc, H4 D = some (.lst acc) ∧ acc.length < sizeLine ∧ Nx (upd H4 D (.lst (acc ++ [y]))) else Nx H3) := by
  refine lc_it wk (fun i H => L2.Same H1 H ∧ ∃ xs, H D = some (.lst xs) ∧ xs.length = i ∧ ∀ j y, xs[j]? = some y → R j y) ?_ ?_ ?_ ?_
  · exact ⟨Same.new nD, [], upd_same, rfl, fun j y e => by simp at e⟩
  · exact fun i H _ h => hG H h.1
  · intro i x H H' hi ⟨sm, xs, hD, hl, hr⟩ y
    refine hs i x H H' _ _ hi sm y fun v H4 h4 hv => ⟨xs, h4 _ _ hD, by rw [hl]; exact Nat.lt_trans (Nat.lt_trans hi hn) (by decide), ?_⟩
    refine ⟨Same.mut (sm.trans h4) nD, xs ++ [v], upd_same, by simp [hl], fun j y e => ?_⟩
    by_cases hj : j < xs.length
    · rw [List.getElem?_append_left hj] at e
      exact hr j y e
    · rw [List.getElem?_append_right (by omega)] at e
      have hj2 : j - xs.length = 0 := by
        cases hk : j - xs.length with
        | zero => rfl
        | succ m => rw [hk] at e; simp at e
      rw [hj2] at e
      simp at e
      subst e
      have : j = i := by omega
      subst this
      exact hv
  · intro H ⟨sm, xs, hD, hl, hr⟩
    exact hd H xs sm hD hl hr
/-- all elements by a function -/
theorem eq_map {xs : List V} {n : Nat} {f : Nat → V} (hl : xs.length = n) (h : ∀ i y, xs[i]? = some y → y = f i) : xs = (List.range n).map f := by
  apply List.ext_getElem?
  intro i
  by_cases hi : i < n
  · have e := List.getElem?_eq_getElem (show i < xs.length by omega)
    rw [e, h i _ e, List.getElem?_map, List.getElem?_range hi]; rfl
  · rw [List.getElem?_eq_none (by omega), List.getElem?_eq_none (by simp; omega)]
theorem stopW {p : (Nat → Nat → L2.St → Hp → Prop) → Prop} (h : Exists p) : Exists p := h
theorem stopC {p : (Nat → Nat → Hp → Prop) → Prop} (h : Exists p) : Exists p := h
theorem un200 {k : Nat} {B : Around} (hr : Room k B) : B.units + 200 < cLine := by
  have := hr.un
  omega
end Lay

set_option Elab.async false
set_option linter.all false
set_option maxRecDepth 100000
set_option maxHeartbeats 4000000
namespace PySem.W
open PySem PySem.Calls PyProof.Rows Builtin
section
variable {prog : Program} {w : World} {M : Model} {A : Around} {E : Value → Shared → Prop} {s : Shared} {K : Frag} {x C f : Addr} {ox : Obj} {od : Option Obj} {y : Value}
/-- x in o, o of an own class that says it itself -/
theorem own_contains {Q : Bool → Shared → Prop} (X : K.In s.heap) (I : InstAt s.heap x ox C od) (hs : findIn K (.ref C) "__contains__" = some (some (.ref f))) (hf : isFn K (.ref f) = true)
    (h : wpAny M A (call (.ref f) [.ref x, y]) (fun v s' => ∃ b, v = .bool b ∧ Q b s') E s) : wpAny M A (contains (.ref x) y) Q E s := by
  unfold contains
  refine wpAny_holding ?_
  simp only [stdlibNamesSay?]
  refine wpAny_bind (wpAny_bind (I.type.here ((looks_findIn X hs).here ?_)))
  rw [if_neg (by simp)]
  refine wpAny_bind (m := callSpecialUnlessNone? (.ref x) (Str.ofString "__contains__") [y] _) ?_
  unfold callSpecialUnlessNone?
  refine wpAny_bind (wpAny_bind (I.type.here ((looks_findIn X hs).here ?_)))
  refine wpAny_holding (wpAny_bind ((bind_fn X _ (beq_iff_eq.mp hf)).here ?_))
  dsimp only
  rw [if_neg (by simp)]
  refine wpAny_bind (wpAny_mono h (fun v s' hv => ?_) fun _ _ e => e)
  obtain ⟨b, rfl, hq⟩ := hv
  exact wpAny_pure (wpAny_truthy_bool hq)
/-- what own == makes of != -/
theorem own_ne {tb b : Value} {Q : Value → Shared → Prop} (hu : A.units + 1 < cLine) (X : K.In s.heap) (I : InstAt s.heap x ox C od) (hb : Looks (model prog w) s.heap (typeOf b) tb) (hn : notFirst K C tb = true)
    (hs : findIn K (.ref C) "__eq__" = some (some (.ref f))) (hf : isFn K (.ref f) = true) (hne : findIn K (.ref C) "__ne__" = some (some (.builtin "object.__ne__"))) (hm : mroIn K C (.type "object") = some true)
    (h : wpAny (model prog w) A.in1 (call (.ref f) [.ref x, b]) (fun v s' => ∃ r, v = .bool r ∧ Q (.bool (!r)) s') E s) : wpAny (model prog w) A (richCompare .NotEq (.ref x) b) Q E s := by
  have sub : Looks (model prog w) s.heap (isInstance (.ref x) (.type "object")) true := I.type.andThen (looks_mroIn X hm)
  have bnd : ∀ self, bindSpecial (.builtin "object.__ne__") self = pure (.builtin "object.__ne__", [self]) := PySem.F.cmp_object.ne.toG.bind
  have one : wpAny (model prog w) A (tryCompare (.ref x) "__ne__" b) (fun r s' => ∃ v, r = some v ∧ Q v s') E s := by
    unfold tryCompare
    refine wpAny_bind (m := callSpecialIfBound? (.ref x) (Str.ofString "__ne__") [b]) ?_
    simp only [callSpecialIfBound?, bindSpecialIfBound?]
    refine wpAny_holding (wpAny_bind (wpAny_bind (wpAny_bind (I.type.here ((looks_findIn X hne).here ?_)))))
    simp only [bnd]
    have core : wpAny (model prog w) A (call (.builtin "object.__ne__") [.ref x, b]) (fun v s' => ∃ r, v = .bool r ∧ Q (.bool r) s') E s := by
      refine wpAny_call (codeAny_call_builtin PySem.F.cmp_object.ne.plain F.cmpEntry_ne (@check_slot (model prog w) _ _ s "object.__ne__" "object" "__ne__" (.ref x) [b] [] _ F.cmpKind_ne F.cmpSplit_ne sub (F.cmpArgs_ne _ _) ?_))
      unfold Builtin.«object.__ne__»
      refine wpAny_bind (m := slotArgs "__ne__" 1 _) (wpAny_pure ?_)
      refine wpAny_bind (wpAny_cRoomFor hu ?_)
      refine wpAny_bind (m := callSpecialIfBound? (.ref x) (Str.ofString "__eq__") [b]) (ifBound_K X I hs hf (wpAny_mono h (fun v s' hv => ?_) fun _ _ e => e))
      obtain ⟨r, rfl, hq⟩ := hv
      refine wpAny_bind (wpAny_truthy_bool ?_)
      exact wpAny_pure ⟨_, rfl, hq⟩
    have fin : wpAny (model prog w) A (call (.builtin "object.__ne__") ([.ref x] ++ [b]) >>= fun v => pure (some v))
        (fun r s' => wpAny (model prog w) A (match r with | some .notImplemented | none => pure none | some v => pure (some v)) (fun r s' => ∃ v, r = some v ∧ Q v s') E s') E s := by
      refine wpAny_bind (wpAny_mono core (fun v s' hv => wpAny_pure ?_) fun _ _ e => e)
      obtain ⟨r, rfl, hq⟩ := hv
      exact wpAny_pure ⟨_, rfl, hq⟩
    refine wpAny_bind (wpAny_askSetting (wpAny_ite ?_))
    split
    · exact wpAny_bind (wpAny_pure (wpAny_pure fin))
    · exact wpAny_tryCatch (wpAny_bind (wpAny_pure (wpAny_pure fin)))
  unfold richCompare
  simp only [oneThing_ref]
  refine wpAny_holding (wpAny_bind (wpAny_cRoomFor (Nat.lt_of_succ_lt hu) ?_))
  refine wpAny_bind (I.type.here (wpAny_bind (hb.here ?_)))
  split
  · rename_i q
    have e : subIn K tb (.ref C) = some false := by
      rcases Bool.or_eq_true_iff.mp hn with e | e
      · rw [beq_iff_eq.mp e] at q; simp at q
      · exact beq_iff_eq.mp e
    refine wpAny_bind ((looks_subIn X e).here ?_)
    simp only [Bool.false_eq_true, if_false]
    refine wpAny_bind (wpAny_mono one (fun r s' z => ?_) fun _ _ e => e)
    obtain ⟨v, rfl, hq⟩ := z
    exact wpAny_pure hq
  · refine wpAny_bind (wpAny_pure ?_)
    simp only [Bool.false_eq_true, if_false]
    refine wpAny_bind (wpAny_mono one (fun r s' z => ?_) fun _ _ e => e)
    obtain ⟨v, rfl, hq⟩ := z
    exact wpAny_pure hq
end
end PySem.W

set_option Elab.async false
set_option linter.all false
set_option maxRecDepth 100000
set_option maxHeartbeats 4000000
namespace Rp
open PySem L2 Lay Exv
/-- repr of a list, empty or not -/
def rReprE (K : PySem.W.Frag) : List V → Hp → VK → Prop := fun xs H Q => rRepr K xs H Q ∨ ∃ p, xs = [.ref p] ∧ H p = some (.lst []) ∧ Q (.str "[]") H
theorem call_reprE {X : Cx} (hg : X.A.guards = some []) (hu : X.A.units + 200 < cLine) : CallR X (.builtin "repr") (rReprE X.K) := by
  intro pins s σ H xs us Q I r h
  rcases h with h | ⟨p, rfl, hp, q⟩
  · exact call_repr hg hu pins s σ H xs us Q I r h
  · obtain ⟨u, rfl, e⟩ := vals1 r
    cases (show u = Value.ref p from e)
    obtain ⟨_, its, m, rv, e1⟩ := (show ObjOk X.prog X.w H s.heap p (.lst []) from I.hok p _ hp)
    cases rv
    refine call_repr_slot (by omega) ⟨_, e1, rfl⟩ F.slot_list_repr.toG ?_
    exact call_list_repr_empty ⟨_, e1, rfl⟩ e1 rfl ⟨_, _, rfl, ⟨.str "[]", H, I.tok _, ⟨_, rfl⟩, q⟩⟩
end Rp

set_option Elab.async false
set_option linter.all false
set_option maxRecDepth 100000
set_option maxHeartbeats 4000000
namespace Own
open PySem L2 Lay PySem.Spec PyProof.Rows ClX
/-! ### a def called with values by place, no text of an object being made -/
def FnP (P : Program) (w : World) (K : PySem.W.Frag) (mg : Str → Option Value) (base : Heap) (k : Nat) (g : Addr) (sp : Sp) : Prop :=
  ∀ (A : Around) (outer : List Env) (s : Shared) (H : Hp) (us : List Value) (vs : List V) (Q : VK) (E : XK), Room k A → A.guards = some [] → Env0 P w K mg base A outer s H → Vals vs us → sp vs H Q E →
    codeAny (model P w) A (.call (.ref g) ⟨us, []⟩) (CR CX0 outer P w H s Q E) s
section
variable {P : Program} {w : World} {K : PySem.W.Frag} {mg : Str → Option Value} {base : Heap} {j k : Nat} {g : Addr} {fd : FuncData} {ps : List Str} {sp sp' : Sp}
theorem FnP.ofG (F : FnG P w K mg base CX0 k g fd ps sp) (b : Binds K fd ps []) : FnP P w K mg base k g sp := by
  intro A outer s H us vs Q E hr hg e0 r h
  have hl : (us ++ []).length = ps.length := by rw [List.append_nil, ← r.length]; exact F.len _ _ _ _ h
  have b1 := b s us (e0.mod.kin.keeps fun b o e => (e0.bs b o e).1) hl
  rw [List.append_nil] at b1
  exact F.run A outer s H ⟨us, []⟩ us vs Q E hr hg e0 b1 r h
theorem FnP.mono (F : FnP P w K mg base j g sp) (h : j ≤ k) : FnP P w K mg base k g sp := fun A outer s H us vs Q E hr => F A outer s H us vs Q E (hr.mono h)
theorem FnP.imp (F : FnP P w K mg base k g sp) (h : ∀ vs H Q E, sp' vs H Q E → sp vs H Q E) : FnP P w K mg base k g sp' := fun A outer s H us vs Q E hr hg e0 r hs => F A outer s H us vs Q E hr hg e0 r (h _ _ _ _ hs)
/-- def f(a, .., *v) -/
theorem fnP_star {f : Addr} {name qual : Str} {params : Arguments} {body : List Stmt} {scope : Scope} {dV kV doc pm cdv ct oc : Value} {an od : Option Addr} {osl : Array (Option Value)} {N : List Str} {pv : Str}
    (lk : K.lookup f = some ⟨oc, od, .func (PySem.W.fnOf name qual params body scope dV kV doc pm an cdv ct), osl⟩) (hcd : PySem.W.codeIn K cdv qual = true) (S : FnScope N (ps ++ [pv]) scope)
    (hb : ∀ us rest : List Value, us.length = ps.length → bindArgs (PySem.W.fnOf name qual params body scope dV kV doc pm an cdv ct) ⟨us ++ rest, []⟩ = (newTuple rest >>= fun t => pure (ps.zip us ++ [(pv, t)])))
    (hbody : ∀ (A : Around) (outer : List Env) (s : Shared) (H : Hp) (vs : List V) (Q : VK) (E : XK), Room k (A.deeper (envOfC qual scope s.heap.objs.size f cdv)) → A.guards = some [] → sp vs H Q E →
      ∃ t, PSs (cxOf CX0 P w K mg base N qual scope f cdv A outer s H E) body t ∧ t { nx := fun _ H' => Q .non H', rt := Q } (start N vs) H) :
    FnP P w K mg base (k + 1) f (fun vs H Q E => ∃ ws rest, vs = ws ++ rest ∧ ws.length = ps.length ∧ rest.length ≤ sizeLine ∧ ∀ p, H p = Option.none → sp (ws ++ [V.ref p]) (upd H p (.tup rest)) Q E) := by
  intro A outer s H us vs Q E hr hg e0 r hsp
  obtain ⟨ws, rest, ev, hl, hz, hq⟩ := hsp
  subst ev
  obtain ⟨u1, u2, eu, r1, r2⟩ := StX.vals_split r
  subst eu
  have hn : H s.heap.objs.size = Option.none := e0.hok.fresh (Nat.le_refl _)
  have hl1 : u1.length = ps.length := by rw [← r1.length]; exact hl
  have hl2 : u2.length ≤ sizeLine := by rw [← r2.length]; exact hz
  refine StX.run_bnd lk hcd S hr e0 (G := fun xs H2 => ∃ p, H p = Option.none ∧ xs = ws ++ [V.ref p] ∧ H2 = upd H p (.tup rest)) (fun A' Ex Q' h => ?_) fun s2 H2 xs ⟨p, hp, ex, eH⟩ hr' => ?_
  · rw [hb u1 u2 hl1]
    refine wpAny_bind (wpAny_newTuple (wpAny_pure ?_) hl2)
    have new : ObjOk P w (upd H s.heap.objs.size (.tup rest)) (s.heap.push ({ cls := .type "tuple", data := .seq u2.toArray } : Obj)) s.heap.objs.size (.tup rest) := ⟨hz, u2, r2, ⟨_, Heap.get?_push_size _ rfl, rfl, _, rfl⟩⟩
    have un := StX.un_laid (fs := frs outer) (s := s) (o := ({ cls := .type "tuple", data := .seq u2.toArray } : Obj)) (u := .tup rest) hn
    have z := h _ _ (ws ++ [V.ref s.heap.objs.size]) (u1 ++ [Value.ref s.heap.objs.size]) (StX.env0_laid e0 new) un rfl (fun e s' z => z) (r1.append (.cons rfl .nil))
      (by rw [List.length_append, List.length_append, hl] <;> rfl) ⟨_, hn, rfl, rfl⟩
    rw [List.zip_append hl1.symm] at z
    exact z
  · subst ex eH
    exact hbody A outer s2 _ _ Q E hr' hg (hq p hp)
end
section
variable {X : Cx} {k : Nat} {f g C : Addr} {sp : Sp} {pins : List (Addr × Obj)} {σ : L2.St} {H : Hp} {s : Shared} {Q : VK} {us : List Value} {vs : List V}
theorem run_P {A : Around} (F : FnP X.prog X.w X.K X.mg X.base k g sp) (hr : Room k A) (hg : A.guards = some []) (e0 : Env0 X.prog X.w X.K X.mg X.base A X.stack s H) (I : Inv X pins σ H s) (r : Vals vs us) (h : sp vs H Q E0) :
    codeAny (model X.prog X.w) A (.call (.ref g) ⟨us, []⟩) (fun r s' => match r with | .ok (.ret v) => EP X pins σ Q v s' | .ok _ => False | .error x => X.xe x s') s := by
  refine codeAny_mono (F A X.stack s H us vs Q E0 hr hg e0 r h) fun r s' hq => ?_
  cases r with
  | error e => exact False.elim hq
  | ok fl =>
    cases fl with
    | ret u => exact I.after hq
    | next => exact False.elim hq
    | brk => exact False.elim hq
    | cont => exact False.elim hq
theorem g_under {A : Around} {a : Args} (hg : A.guards = some []) : (A.under (.builtin "type.__call__" a)).guards = some [] := by
  have e : Code.isGuard (.builtin "type.__call__" a) = false := by first | rfl | (show List.contains _ _ = false; decide +kernel)
  have e2 : Code.guards (.builtin "type.__call__" a) = [] := by unfold Code.guards; rw [e]; rfl
  have z : (A.under (.builtin "type.__call__" a)).guards = pushGuards (Code.guards (.builtin "type.__call__" a)) A.guards := by unfold Around.under; rfl
  rw [z, e2, hg]; rfl
theorem g_in1 {A : Around} (hg : A.guards = some []) : A.in1.guards = some [] := by simpa using hg
/-! ### making -/
def tMakeP (C : Addr) (sp : Sp) (t : TA) : TE := fun σ H Q => t σ H fun vs H1 => ∀ x dx, H1 x = Option.none → H1 dx = Option.none → dx ≠ x →
  sp (V.ref x :: vs) (upd (upd H1 dx (.own x)) x (.ins C dx [])) (fun v H2 => v = .non ∧ Q (.ref x) H2) E0
theorem run_makeP (M : Mk X.K C f) (F : FnP X.prog X.w X.K X.mg X.base k f sp) (hr : Room (k + 1) X.A) (hg : X.A.guards = some []) (I : Inv X pins σ H s) (r : Vals vs us)
    (h : ∀ x dx, H x = Option.none → H dx = Option.none → dx ≠ x → sp (V.ref x :: vs) (upd (upd H dx (.own x)) x (.ins C dx [])) (fun v H2 => v = .non ∧ Q (.ref x) H2) E0) :
    wpAny (model X.prog X.w) X.A (call (.ref C) us) (EP X pins σ Q) X.xe s := by
  have hq := h (s.heap.objs.size + 1) s.heap.objs.size (I.hok.fresh (Nat.le_succ _)) (I.hok.fresh (Nat.le_refl _)) (Nat.ne_of_lt (Nat.lt_succ_self _))
  have I2 := Inv.made (C := C) I
  have r2 : Vals (V.ref (s.heap.objs.size + 1) :: vs) (Value.ref (s.heap.objs.size + 1) :: us) := .cons rfl r
  refine wpAny_call (make_map (f := f) I.kIn M.makes M.init (beq_iff_eq.mp M.fn) (codeAny_mono (F _ X.stack _ _ (Value.ref (s.heap.objs.size + 1) :: us) _ _ E0 (hr.make C us []) (g_under hg) (I2.env0.make C us []) r2 hq) fun r s' hq' => ?_))
  cases r with
  | error e => exact False.elim hq'
  | ok fl =>
    cases fl with
    | ret u =>
      obtain ⟨v, H', I3, rv, ev, q3⟩ := I2.after hq'
      subst ev
      exact ⟨rv, ⟨V.ref (s.heap.objs.size + 1), H', I3, rfl, q3⟩⟩
    | next => exact False.elim hq'
    | brk => exact False.elim hq'
    | cont => exact False.elim hq'
end
section
variable {X : Cx} {k : Nat} {f g C p : Addr} {mc : Value} {sp : Sp} {x m : Str} {o e : Expr} {es : List Expr} {t ta : TA} {te : TE} {pos apos sp_ p1 : Pos} {pl : Sem Bool}
/-- C(e, ..) -/
theorem pe_makeP (M : Mk X.K C f) (F : FnP X.prog X.w X.K X.mg X.base k f sp) (hr : Room (k + 1) X.A) (hgd : X.A.guards = some []) (hm : X.mg x = some (.ref C)) (ha : PA X (e :: es) t) (hg : Gl X x := by rfl) (hdb : (x == ("__debug__" : Str)) = false := by decide)
    (he : starEach (e :: es) X.env = (false, eval e X.env) :: starEach es X.env := by rfl) (hpl : (backTo pos (starEach es X.env)).any (·.1) = false := by rfl) : PE X (.Call (.Name x p1) (e :: es) [] pos) (tMakeP C sp t) := by
  refine ⟨fun pins s σ H Q I h => ?_⟩
  refine wpAny_Call_Name_kw (ld_glob I hg hm ?_ hdb)
  refine PySem.W.callWith_K (h₀ := X.base) I.ok.mod.kin M.kp (thn (ha.run pos pins s σ H _ I h) fun us s1 ⟨vs, H1, I1, r, q⟩ => ⟨I1.kIn, ?_⟩) he hpl
  exact run_makeP M F hr hgd I1 r q
/-- C(*e) -/
def tStar1 (K : PySem.W.Frag) (te : TE) : TA := fun σ H Q => te σ H fun y H1 => ∃ a xs, y = V.ref a ∧ (SqT K H1 a xs ∨ SqL K H1 a xs) ∧ Q xs H1
theorem pe_makeS (M : Mk X.K C f) (F : FnP X.prog X.w X.K X.mg X.base k f sp) (hr : Room (k + 1) X.A) (hgd : X.A.guards = some []) (hm : X.mg x = some (.ref C)) (he : PE X e te) (hg : Gl X x := by rfl) (hdb : (x == ("__debug__" : Str)) = false := by decide)
    (hst : starEach [.Starred e sp_] X.env = [(true, eval e X.env)] := by rfl) : PE X (.Call (.Name x p1) [.Starred e sp_] [] pos) (tMakeP C sp (tStar1 X.K te)) := by
  refine ⟨fun pins s σ H Q I h => ?_⟩
  refine wpAny_Call_Name_kw (ld_glob I hg hm ?_ hdb)
  refine PySem.W.callWith_S (h₀ := X.base) I.ok.mod.kin M.kp (thn (he.run pins s σ H _ I h) fun v s1 ⟨y, H1, I1, ry, a, xs, ey, hxs, q⟩ => ?_) hst
  subst ey
  obtain rfl : v = Value.ref a := ry
  exact StX.star_any I1 hxs fun us s2 I2 rv => ⟨I2.kIn, run_makeP M F hr hgd I2 rv q⟩
/-! ### methods -/
def tMethP (C : Addr) (m : Str) (sp : Sp) (te : TE) (t : TA) : TE := fun σ H Q => te σ H fun x H1 => ∃ a dx fs, x = .ref a ∧ H1 a = some (.ins C dx fs) ∧ fs.lookup m = none ∧ t σ H1 fun vs H2 => sp (.ref a :: vs) H2 Q E0
/-- o.m() -/
theorem pe_methP0 (he : PE X o te) (c : Cls X.K C) (hm : Meth X.K C m f) (F : FnP X.prog X.w X.K X.mg X.base k f sp) (hr : Room k X.A) (hgd : X.A.guards = some [])
    (ht : eval (.Call (.Attribute o m apos) [] [] pos) X.env = (do
      let ov ← eval o X.env
      standAt apos.atName
      let (f, first) ← holding [ov] (getMethod ov m pl)
      callWith pos f first (backTo pos (starEach [] X.env)) (backToKw pos (keywordEach [] X.env))) := by rfl) :
    PE X (.Call (.Attribute o m apos) [] [] pos) (tMethP C m sp te tNil) := by
  refine ⟨fun pins s σ H Q I h => ?_⟩
  refine PySem.W.methodCall_KW (pl := pl) (thn (he.run pins s σ H _ I h) fun u s1 ⟨x, H1, I1, rx, a, dx, fs, ex, ea, l, q⟩ => ?_) ht
  subst ex
  obtain rfl : u = Value.ref a := rx
  refine getmeth_ok I1 ea c hm l ?_
  exact PySem.W.callWith_K0 (first := [.ref a]) I1.kIn hm.kp (wpAny_call (run_P (us := [.ref a]) (vs := [.ref a]) F hr hgd I1.env0 I1 (.cons rfl .nil) q))
/-- C.m is a staticmethod: its record at p, its def at g -/
structure CSta (K : PySem.W.Frag) (C : Addr) (mc : Value) (m : Str) (p g : Addr) : Prop where
  at_ : PySem.W.findCls K (.ref C) mc m = some (.get (.builtin "staticmethod.__get__") (.ref p) .none (.ref C))
  rc : ∃ rest, PySem.W.recIn K p "staticmethod" = some (.ref g :: rest)
  kp : PySem.W.keepIn K (.ref g) = true
theorem getmethst_ok {pins : List (Addr × Obj)} {σ : L2.St} {H : Hp} {s : Shared} {A : Around} {E : Value → Shared → Prop} {Q : Value × List Value → Shared → Prop} (I : Inv X pins σ H s) (r : CRead X.K C mc) (c : CSta X.K C mc m p g)
    (h : ∀ s', Inv X pins σ H s' → Q (.ref g, []) s') : wpAny (model X.prog X.w) A (getMethod (.ref C) m pl) Q E s := by
  obtain ⟨rest, hp⟩ := c.rc
  refine PySem.W.method_cls I.kIn r.ga (PySem.W.cls_bind I.kIn r.rd c.at_ ?_)
  refine wpAny_call (PySem.W.sm_get (s := { s with toks := s.toks + 1 }) I.kIn hp (PySem.W.handed_on rfl ?_))
  exact h _ (I.tok _)
def tStaP (C : Addr) (sp : Sp) (te : TE) (t : TA) : TE := fun σ H Q => te σ H fun x H1 => x = .ref C ∧ t σ H1 fun vs H2 => sp vs H2 Q E0
/-- C.m(e, ..) -/
theorem pe_staP (he : PE X o te) (r : CRead X.K C mc) (c : CSta X.K C mc m p g) (F : FnP X.prog X.w X.K X.mg X.base k g sp) (hr : Room k X.A) (hgd : X.A.guards = some []) (ha : PA X (e :: es) t)
    (hst : starEach (e :: es) X.env = (false, eval e X.env) :: starEach es X.env := by rfl) (hpl : (backTo pos (starEach es X.env)).any (·.1) = false := by rfl)
    (ht : eval (.Call (.Attribute o m apos) (e :: es) [] pos) X.env = (do
      let ov ← eval o X.env
      standAt apos.atName
      let (f, first) ← holding [ov] (getMethod ov m pl)
      callWith pos f first (backTo pos (starEach (e :: es) X.env)) (backToKw pos (keywordEach [] X.env))) := by rfl) :
    PE X (.Call (.Attribute o m apos) (e :: es) [] pos) (tStaP C sp te t) := by
  refine ⟨fun pins s σ H Q I h => ?_⟩
  refine PySem.W.methodCall_KW (pl := pl) (thn (he.run pins s σ H _ I h) fun u s1 ⟨x, H1, I1, rx, ex, q⟩ => ?_) ht
  subst ex
  obtain rfl : u = Value.ref C := rx
  refine getmethst_ok I1 r c fun s2 I2 => ?_
  refine PySem.W.callWith_K (first := []) (h₀ := X.base) I2.ok.mod.kin c.kp (thn (ha.run pos pins s2 σ H1 _ I2 q) fun us s3 ⟨vs, H2, I3, rv, q2⟩ => ⟨I3.kIn, ?_⟩) hst hpl
  exact wpAny_call (run_P F hr hgd I3.env0 I3 rv q2)
/-- C.m(k = e) -/
theorem pe_staK {fd : FuncData} {q : Str} {kws : List Keyword} {tk : TA} (he : PE X o te) (r : CRead X.K C mc) (c : CSta X.K C mc m p g) (F : FnG X.prog X.w X.K X.mg X.base CX0 k g fd [q] sp) (b : Kw1 fd [q]) (hr : Room k X.A) (hgd : X.A.guards = some [])
    (hkw : PK X kws tk) (hall : (backToKw pos (keywordEach kws X.env)).all (·.1.isSome) = true := by rfl) (hks : (backToKw pos (keywordEach kws X.env)).filterMap (·.1) = [q] := by rfl)
    (hpl : ((backTo pos (starEach [] X.env)).any (·.1) || (backToKw pos (keywordEach kws X.env)).any (·.1.isNone)) = false := by rfl)
    (ht : eval (.Call (.Attribute o m apos) [] kws pos) X.env = (do
      let ov ← eval o X.env
      standAt apos.atName
      let (f, first) ← holding [ov] (getMethod ov m pl)
      callWith pos f first (backTo pos (starEach [] X.env)) (backToKw pos (keywordEach kws X.env))) := by rfl) :
    PE X (.Call (.Attribute o m apos) [] kws pos) (tStaP C sp te tk) := by
  refine ⟨fun pins s σ H Q I h => ?_⟩
  refine PySem.W.methodCall_KW (pl := pl) (thn (he.run pins s σ H _ I h) fun u s1 ⟨x, H1, I1, rx, ex, q⟩ => ?_) ht
  subst ex
  obtain rfl : u = Value.ref C := rx
  refine getmethst_ok I1 r c fun s2 I2 => ?_
  refine PySem.W.callWith_KW0 (h₀ := X.base) I2.ok.mod.kin c.kp hall ?_ hpl
  refine thn (hkw.run pos pins s2 σ H1 _ I2 q) fun ws s3 ⟨zs, H2, I3, rz, q2⟩ => ⟨I3.kIn, ?_⟩
  rw [hks]
  have hl : zs.length = 1 := F.len _ _ _ _ q2
  cases rz with
  | nil => cases hl
  | @cons z u zr ur h1 rest =>
    cases rest with
    | cons _ _ => cases hl
    | nil =>
      have b1 : BindsTo s3 fd ⟨[], [(_, u)]⟩ ([_].zip [u]) := .of_eq (b _ u rfl)
      exact wpAny_call (run_G (us' := [u]) (vs' := [z]) F hr hgd I3 b1 (.cons h1 .nil) q2)
/-! ### properties -/
def tPropP (C : Addr) (sp : Sp) (te : TE) : TE := fun σ H Q => te σ H fun x H1 => ∃ a dx fs, x = .ref a ∧ H1 a = some (.ins C dx fs) ∧ sp [.ref a] H1 Q E0
theorem pe_propP (he : PE X e te) (c : Cls X.K C) (hp : PropOf X.K C m p g) (F : FnP X.prog X.w X.K X.mg X.base k g sp) (hr : Room (k + 1) X.A) (hgd : X.A.guards = some [])
    (hab : attributeBase e m X.env (eval e X.env) = eval e X.env := by rfl) : PE X (.Attribute e m pos) (tPropP C sp te) := by
  refine ⟨fun pins s σ H Q I h => ?_⟩
  refine attr_of hab (thn (he.run pins s σ H _ I h) fun u s1 ⟨x, H1, I1, rx, a, dx, fs, ex, ea, q⟩ => ?_)
  subst ex
  obtain rfl : u = Value.ref a := rx
  obtain ⟨mA, O, _, _, _, _⟩ := ins_get I1.hok ea
  obtain ⟨od, J, _⟩ := O.look
  obtain ⟨rest, hrec⟩ := hp.rec_
  have I2 := I1.tok (s1.toks + 1)
  have hc : (PySem.W.clsIn X.K C).isSome = true := by
    obtain ⟨cd, hc, _⟩ := PySem.W.any_some c.hd
    rw [hc]
    rfl
  refine PySem.W.get_bind I1.kIn J (PySem.W.plainGet_of (c.get m)).1 (PySem.W.findObj_data hc hp.at_ hp.get hp.tak) (PySem.W.plainGet_of (c.get m)).2 (wpAny_call (PySem.W.prop_get (s := { s1 with toks := s1.toks + 1 }) I1.kIn hrec ?_))
  refine codeAny_mono (F X.A.in1 X.stack { s1 with toks := s1.toks + 1 } H1 [.ref a] [.ref a] Q E0 hr.in1 (g_in1 hgd) I2.env0.in1 (.cons rfl .nil) q) fun r s' hq => ?_
  cases r with
  | error er => exact False.elim hq
  | ok fl =>
    cases fl with
    | ret u =>
      obtain ⟨v, H', I3, rv, q3⟩ := I2.after hq
      show wpAny _ _ (handedOut u) _ _ _
      rw [PySem.W.handedOut_of (handed_of rv)]
      exact wpAny_pure ⟨v, H', I3, rv, q3⟩
    | next => exact False.elim hq
    | brk => exact False.elim hq
    | cont => exact False.elim hq
end
end Own

set_option Elab.async false
set_option linter.all false
set_option maxRecDepth 100000
set_option maxHeartbeats 4000000
namespace Own
open PySem L2 Lay PySem.Spec PyProof.Rows SrtO
/-! ### the order of texts, of entries -/
def strLt (x y : Str) : Bool := decide (x.cps.toList < y.cps.toList)
theorem nl_irr : ∀ l : List Nat, ¬ l < l
  | [] => fun h => by cases h
  | a :: l => fun h => by
    cases h with
    | rel h => exact Nat.lt_irrefl _ h
    | cons h => exact nl_irr l h
theorem nl_tr : ∀ {a b c : List Nat}, a < b → b < c → a < c
  | _, _, _, .nil, .rel _ => .nil
  | _, _, _, .nil, .cons _ => .nil
  | _, _, _, .rel h, .rel h' => .rel (Nat.lt_trans h h')
  | _, _, _, .rel h, .cons _ => .rel h
  | _, _, _, .cons _, .rel h => .rel h
  | _, _, _, .cons h, .cons h' => .cons (nl_tr h h')
theorem nl_tri : ∀ a b : List Nat, a < b ∨ a = b ∨ b < a
  | [], [] => .inr (.inl rfl)
  | [], _ :: _ => .inl .nil
  | _ :: _, [] => .inr (.inr .nil)
  | x :: a, y :: b => by
    rcases Nat.lt_trichotomy x y with h | h | h
    · exact .inl (.rel h)
    · subst h
      rcases nl_tri a b with h | h | h
      · exact .inl (.cons h)
      · subst h; exact .inr (.inl rfl)
      · exact .inr (.inr (.cons h))
    · exact .inr (.inr (.rel h))
/-- a strict order of which any two unlike things stand one way -/
structure Tot {α : Type} (lt : α → α → Bool) : Prop where
  irr : ∀ x, lt x x = false
  tr : ∀ x y z, lt x y = true → lt y z = true → lt x z = true
  tri : ∀ x y, lt x y = true ∨ x = y ∨ lt y x = true
theorem Tot.asym {α : Type} {lt : α → α → Bool} (T : Tot lt) {x y : α} (h : lt x y = true) : lt y x = false := by
  cases e : lt y x with
  | false => rfl
  | true => have := T.tr _ _ _ h e; rw [T.irr] at this; cases this
theorem Tot.anti {α : Type} {lt : α → α → Bool} (T : Tot lt) {x y : α} (h1 : lt x y = false) (h2 : lt y x = false) : x = y := by
  rcases T.tri x y with h | h | h
  · rw [h1] at h; cases h
  · exact h
  · rw [h2] at h; cases h
theorem Tot.swo {α : Type} {lt : α → α → Bool} (T : Tot lt) : Swo lt where
  asym := fun x y h => T.asym h
  tr := fun x y z h1 h2 => by
    cases e : lt z x with
    | false => rfl
    | true =>
      rcases T.tri x y with h | h | h
      · have := T.tr _ _ _ e h; rw [h2] at this; cases this
      · subst h; rw [h2] at e; cases e
      · rw [h1] at h; cases h
theorem tot_str : Tot strLt where
  irr := fun x => decide_eq_false (nl_irr _)
  tr := fun x y z h1 h2 => decide_eq_true (nl_tr (of_decide_eq_true h1) (of_decide_eq_true h2))
  tri := fun x y => by
    rcases nl_tri x.cps.toList y.cps.toList with h | h | h
    · exact .inl (decide_eq_true h)
    · refine .inr (.inl ?_)
      obtain ⟨⟨a⟩⟩ := x
      obtain ⟨⟨b⟩⟩ := y
      simp at h
      subst h; rfl
    · exact .inr (.inr (decide_eq_true h))
abbrev Ent := Int × Int × Str
def entLt (p q : Ent) : Bool := if p.1 = q.1 then (if p.2.1 = q.2.1 then strLt p.2.2 q.2.2 else decide (p.2.1 < q.2.1)) else decide (p.1 < q.1)
theorem tot_ent : Tot entLt where
  irr := fun x => by simp [entLt, tot_str.irr]
  tr := fun x y z h1 h2 => by
    unfold entLt at *
    split at h1 <;> split at h2
    · rename_i a b
      rw [if_pos (a.trans b)]
      split at h1 <;> split at h2
      · rename_i c d
        rw [if_pos (c.trans d)]
        exact tot_str.tr _ _ _ h1 h2
      · rename_i c d
        rw [if_neg (by rw [c]; exact d), c]; exact h2
      · rename_i c d
        rw [if_neg (by rw [← d]; exact c), ← d]; exact h1
      · have h1 := of_decide_eq_true h1
        have h2 := of_decide_eq_true h2
        rw [if_neg (by omega)]
        exact decide_eq_true (by omega)
    · rename_i a b
      rw [if_neg (by rw [a]; exact b), a]; exact h2
    · rename_i a b
      rw [if_neg (by rw [← b]; exact a), ← b]; exact h1
    · have h1 := of_decide_eq_true h1
      have h2 := of_decide_eq_true h2
      rw [if_neg (by omega)]
      exact decide_eq_true (by omega)
  tri := fun x y => by
    obtain ⟨a, b, c⟩ := x
    obtain ⟨a', b', c'⟩ := y
    unfold entLt
    by_cases e : a = a'
    · subst e
      by_cases f : b = b'
      · subst f
        simp only [if_true]
        rcases tot_str.tri c c' with h | h | h
        · exact .inl h
        · subst h; exact .inr (.inl rfl)
        · exact .inr (.inr h)
      · have f' : ¬ b' = b := fun z => f z.symm
        simp only [if_true, if_neg f, if_neg f']
        rcases Int.lt_trichotomy b b' with h | h | h
        · exact .inl (decide_eq_true h)
        · exact absurd h f
        · exact .inr (.inr (decide_eq_true h))
    · have e' : ¬ a' = a := fun z => e z.symm
      simp only [if_neg e, if_neg e']
      rcases Int.lt_trichotomy a a' with h | h | h
      · exact .inl (decide_eq_true h)
      · exact absurd h e
      · exact .inr (.inr (decide_eq_true h))
/-! ### sorted lists -/
def Sd {α : Type} (lt : α → α → Bool) (l : List α) : Prop := l.Pairwise fun a b => lt b a = false
theorem sd_uniq {α : Type} {lt : α → α → Bool} (T : Tot lt) : ∀ {l m : List α}, l.Perm m → Sd lt l → Sd lt m → l = m
  | [], m, p, _, _ => by have := p.length_eq; cases m with | nil => rfl | cons _ _ => cases this
  | a :: l, [], p, _, _ => by have := p.length_eq; cases this
  | a :: l, b :: m, p, hl, hm => by
    have h1 := List.pairwise_cons.mp hl
    have h2 := List.pairwise_cons.mp hm
    have e : a = b := by
      have ha : a ∈ b :: m := p.mem_iff.mp (List.mem_cons_self ..)
      have hb : b ∈ a :: l := p.mem_iff.mpr (List.mem_cons_self ..)
      rcases List.mem_cons.mp ha with h | h
      · exact h
      · rcases List.mem_cons.mp hb with h' | h'
        · exact h'.symm
        · exact T.anti (h2.1 a h |> fun z => z) (h1.1 b h')
    subst e
    rw [sd_uniq T (List.Perm.cons_inv p) h1.2 h2.2]
/-! ### tuples that are entries -/
def IsE (h : Heap) (v : Value) (e : Ent) : Prop := ∃ a o t u x n, v = .ref a ∧ h.get? a = some o ∧ o.cls = .type "tuple" ∧ o.data = .seq #[.int e.1 t, .int e.2.1 u, .str e.2.2 x] n
theorem IsE.keeps {h h' : Heap} {v : Value} {e : Ent} (p : IsE h v e) (k : ∀ b o, h.get? b = some o → o.cls = .type "tuple" → h'.get? b = some o) : IsE h' v e := by
  obtain ⟨a, o, t, u, x, n, e, ho, hc, hd⟩ := p
  exact ⟨a, o, t, u, x, n, e, k _ _ ho hc, hc, hd⟩
section
variable {prog : Program} {w : World} {A : Around} {E : Value → Shared → Prop} {s : Shared}
theorem firstsE {h : Heap} : ∀ {vs : List Value}, (∀ v ∈ vs, ∃ e, IsE h v e) → ∃ fs : List Value, PySem.W.KatTups h vs fs ∧ fs.length = vs.length ∧ ∀ f ∈ fs, ∃ x t, f = Value.int x t
  | [], _ => ⟨[], PySem.W.KatTups.nil, rfl, fun _ hm => by simp at hm⟩
  | v :: vs, hp => by
    obtain ⟨fs, h1, h2, h3⟩ := firstsE (vs := vs) fun v' hm => hp v' (List.mem_cons_of_mem _ hm)
    obtain ⟨e, a, o, t, u, x, n, e', ho, hc, hd⟩ := hp v (List.mem_cons_self ..)
    subst e'
    refine ⟨.int e.1 t :: fs, PySem.W.KatTups.cons ho hc hd rfl h1, by rw [List.length_cons, List.length_cons, h2], fun f hm => ?_⟩
    rcases List.mem_cons.mp hm with rfl | hm
    · exact ⟨_, t, rfl⟩
    · exact h3 f hm
theorem ent_cmp {vs : List Value} {k : Value → Ent} (hp : ∀ v ∈ vs, IsE s.heap v (k v)) : Cmp prog w A s (tuples' true) (fun p => p.1 ∈ vs) (lt2 fun v u => entLt (k v) (k u)) := by
  intro p q hm hm'
  have h1 := hp _ hm
  have h2 := hp _ hm'
  show wpAny (model prog w) A (keyLt' (tuples' true) p.1 q.1) (fun r s' => s' = s ∧ r = entLt (k p.1) (k q.1)) (fun _ _ => False) s
  generalize k p.1 = e1 at h1 ⊢
  generalize k q.1 = e2 at h2 ⊢
  obtain ⟨x, y, z⟩ := e1
  obtain ⟨x', y', z'⟩ := e2
  obtain ⟨a, o, t, u, v, n, e, ho, hc, hd⟩ := h1
  obtain ⟨a', o', t', u', v', n', e', ho', hc', hd'⟩ := h2
  rw [e, e']
  refine PySem.W.kat_lt ho hd ho' hd' ?_
  show PySem.W.KatLex prog w A true (decide (3 < 3)) _ [(.int x t, .int x' t'), (.int y u, .int y' u'), (.str z v, .str z' v')] 0 s
  unfold entLt
  dsimp only
  refine PySem.W.kat_cons (SeqAt.EqAt.int_int x t x' t' prog w _ _ ?_)
  refine PySem.W.kat_go (fun e1 => ?_) (fun e1 => ?_)
  · have ex : x = x' := by simpa using e1
    refine PySem.W.kat_yes (PySem.W.kat_cons (SeqAt.EqAt.int_int y u y' u' prog w _ _ ?_))
    refine PySem.W.kat_go (fun e2 => ?_) (fun e2 => ?_)
    · have ey : y = y' := by simpa using e2
      rw [if_pos ex, if_pos ey]
      refine PySem.W.kat_yes (PySem.W.kat_cons (SeqAt.EqAt.str_str z v z' v' prog w _ _ ?_))
      refine PySem.W.kat_go (fun e3 => ?_) (fun e3 => ?_)
      · have ez : z = z' := by simpa using e3
        subst ez
        exact PySem.W.kat_yes (PySem.W.kat_nil ⟨rfl, (tot_str.irr z).symm⟩)
      · refine PySem.W.kat_no (PySem.W.kat_one _ _ (PyProof.Rows.lt_str ?_))
        exact (show s = s ∧ decide (z.cps.toList < z'.cps.toList) = strLt z z' from ⟨rfl, rfl⟩)
    · have ey : ¬ y = y' := by simpa using e2
      rw [if_pos ex, if_neg ey]
      refine PySem.W.kat_no (PySem.W.kat_one _ _ (PyProof.Rows.lt_int ?_))
      exact (show s = s ∧ decide (y < y') = decide (y < y') from ⟨rfl, rfl⟩)
  · have ex : ¬ x = x' := by simpa using e1
    rw [if_neg ex]
    exact PySem.W.kat_no (oneLt_int ⟨rfl, rfl⟩)
theorem ents_sortableO {a : Addr} {vs : List Value} {k : Value → Ent} (h0 : 0 < vs.length) (hp : ∀ v ∈ vs, IsE s.heap v (k v)) (ha : ∀ o, s.heap.get? a = some o → o.cls ≠ .type "tuple") : SortableO prog w A s a vs fun v u => entLt (k v) (k u) := by
  intro h' keep
  have hp' : ∀ v ∈ vs, IsE h' v (k v) := fun v hm => (hp v hm).keeps fun b o e c => keep b o (fun z => by subst z; exact ha o e c) e
  obtain ⟨fs, h1, h2, h3⟩ := firstsE fun v hm => ⟨_, hp' v hm⟩
  refine ⟨tuples' true, fun Q E hq => ?_, ent_cmp hp'⟩
  refine PySem.W.kat_kind (T := .type "int") h1 (by omega) (fun f hm => ?_) (by rfl) ?_
  · obtain ⟨x, t, rfl⟩ := h3 f hm
    exact PySem.W.Looks.now
  · have e : (Value.type "int" != Value.type "tuple") = true := by first | decide +kernel | rfl | decide
    rw [e]
    exact hq
end
end Own

set_option Elab.async false
set_option linter.all false
set_option maxRecDepth 100000
set_option maxHeartbeats 4000000
namespace Gs
open PySem L2 PySem.Spec PyProof.Rows
/-! ### sets of keys of any kind that can be walked: L what was put in -/
section
variable {P : Program} {w : World} {κ : Type} [DecidableEq κ] (knd : PySem.KeyKind P w κ)
/-- the elements and their keys, one by one -/
inductive Al : List (Int × Value) → List κ → Prop where
  | nil : Al [] []
  | cons {e : Int × Value} {k : κ} {es : List (Int × Value)} {ks : List κ} (h : knd.is k e.2 = true ∧ e.1 = knd.hash k ∧ e.2.scannable = true) (r : Al es ks) : Al (e :: es) (k :: ks)
variable {knd}
theorem Al.elems {es : List (Int × Value)} {ks : List κ} (h : Al knd es ks) : ElemsOf knd es := by
  induction h with
  | nil => exact fun e he => by simp at he
  | cons h _ ih =>
    intro e he
    rcases List.mem_cons.mp he with z | z
    · subst z; exact ⟨⟨_, h.1, h.2.1⟩, h.2.2⟩
    · exact ih e z
theorem Al.len {es : List (Int × Value)} {ks : List κ} (h : Al knd es ks) : es.length = ks.length := by
  induction h with
  | nil => rfl
  | cons _ _ ih => rw [List.length_cons, List.length_cons, ih]
theorem Al.has {es : List (Int × Value)} {ks : List κ} (h : Al knd es ks) (k : κ) : k ∈ ks ↔ ∃ e ∈ es, knd.is k e.2 = true := by
  induction h with
  | nil => simp
  | @cons e k' es ks h _ ih =>
    constructor
    · intro hk
      rcases List.mem_cons.mp hk with z | z
      · subst z; exact ⟨e, List.mem_cons_self .., h.1⟩
      · obtain ⟨e', he, q⟩ := ih.mp z; exact ⟨e', List.mem_cons_of_mem _ he, q⟩
    · rintro ⟨e', he, q⟩
      rcases List.mem_cons.mp he with z | z
      · subst z; rw [knd.inj _ _ _ q h.1]; exact List.mem_cons_self ..
      · exact List.mem_cons_of_mem _ (ih.mpr ⟨e', z, q⟩)
theorem Al.perm {es es' : List (Int × Value)} (p : es'.Perm es) : ∀ {ks : List κ}, Al knd es ks → ∃ ks', ks'.Perm ks ∧ Al knd es' ks' := by
  intro ks h
  replace p := p.symm
  revert ks
  induction p with
  | nil => exact fun h => ⟨_, .refl _, h⟩
  | cons x _ ih =>
    intro ks h
    cases h with
    | cons h r =>
      obtain ⟨ks', q, r'⟩ := ih r
      exact ⟨_ :: ks', q.cons _, .cons h r'⟩
  | swap x y l =>
    intro ks h
    cases h with
    | cons h1 r =>
      cases r with
      | cons h2 r => exact ⟨_, List.Perm.swap _ _ _, .cons h2 (.cons h1 r)⟩
  | trans _ _ ih1 ih2 =>
    intro ks h
    obtain ⟨k1, q1, r1⟩ := ih1 h
    obtain ⟨k2, q2, r2⟩ := ih2 r1
    exact ⟨k2, q2.trans q1, r2⟩
variable (knd)
def GS (h : Heap) (a : Addr) (L : List κ) : Prop :=
  ∃ o es ep t ks, h.get? a = some o ∧ o.ExactSet ∧ o.data = .set es ep t ∧ Al knd es.toList ks ∧ ks.Nodup ∧ (∀ k, k ∈ ks ↔ k ∈ L) ∧ ks.length ≤ L.length ∧ es.size < scanBound ∧ t.fits es.size = true ∧ Ris t.place.toList ∧
    (w.params.followText "set-order" = true ∨ t.led = true)
variable {knd} {A : Around} {E : Value → Shared → Prop} {s : Shared} {a : Addr} {L : List κ} {k : κ} {v : Value}
theorem GS.at {h h' : Heap} (G : GS knd h a L) (q : ∀ o, h.get? a = some o → h'.get? a = some o) : GS knd h' a L := by
  obtain ⟨o, es, ep, t, ks, ho, r⟩ := G
  exact ⟨o, es, ep, t, ks, q o ho, r⟩
/-- the element is laid; perhaps all is laid anew -/
theorem gs_lay {g : Bool → Sem Unit} (hg : ∀ (b : Bool) (s₁ : Shared) (Q' : Unit → Shared → Prop), Q' () s₁ → wpAny (model P w) A (g b) Q' E s₁)
    {o : Obj} {es : Array (Int × Value)} {ep : Nat} {t : SetTable} (ho : s.heap.get? a = some o) (hex : o.ExactSet) (hd : o.data = .set es ep t) {es1 : Array (Int × Value)} {t2 : SetTable} {ks : List κ} (al : Al knd es1.toList ks) (nd : ks.Nodup)
    (hm : ∀ k, k ∈ ks ↔ k ∈ L) (hl : ks.length ≤ L.length) (hb : es1.size < scanBound) (hf : t2.fits es1.size = true) (hr : Ris t2.place.toList) (hle : w.params.followText "set-order" = true ∨ t2.led = true) {wasDummy : Bool} {R : Option Bool → Shared → Prop}
    (hR : ∀ h', Heap.SameBut a s.heap h' → GS knd h' a L → R (some true) { s with heap := h' }) :
    wpAny (model P w) A (do
        storeSet a es1 t2
        if (!wasDummy && t2.tooFull) = true then do
            g (relayAll t2 es1 (SetTable.grown es1.size)).2.2
            storeSet a (relayAll t2 es1 (SetTable.grown es1.size)).1 (relayAll t2 es1 (SetTable.grown es1.size)).2.1
            pure (some true)
          else pure (some true)) R E s := by
  have one := store_at (es' := es1) (t' := t2) ho hd
  have sb := Heap.SameBut.update s.heap a (Obj.putSet es1 t2)
  refine wpAny_bind (wpAny_storeSet_of ho hd ?_ (fits_of_scanBound hb))
  by_cases c : (!wasDummy && t2.tooFull) = true
  · rw [if_pos c]
    have pm := relayAll_perm t2 es1 (SetTable.grown es1.size)
    have q1 := relayAll_fits t2 es1 (SetTable.grown es1.size)
    have q2 := relayAll_ris t2 es1 (SetTable.grown es1.size)
    have q3 := relayAll_led t2 es1 (SetTable.grown es1.size)
    revert pm q1 q2 q3
    generalize relayAll t2 es1 (SetTable.grown es1.size) = Z
    obtain ⟨es2, t3, gave⟩ := Z
    intro pm q1 q2 q3
    obtain ⟨ks2, pk, al2⟩ := Al.perm pm al
    have e2 : es2.size = es1.size := by
      have := pm.length_eq
      simpa using this
    have hb2 : es2.size < scanBound := e2 ▸ hb
    refine wpAny_bind (hg _ _ _ (wpAny_bind (wpAny_storeSet_of one rfl (wpAny_pure (hR _ (sb.trans (Heap.SameBut.update _ a _)) ?_)) (fits_of_scanBound hb2))))
    exact ⟨_, es2, _, t3, ks2, store_at (es' := es2) (t' := t3) one rfl, hex, rfl, al2, pk.nodup_iff.mpr nd, fun k => pk.mem_iff.trans (hm k), pk.length_eq ▸ hl, hb2, q1, q2, hle.imp id fun z => q3.trans z⟩
  · rw [if_neg c]
    exact wpAny_pure (hR _ sb ⟨_, es1, _, t2, ks, one, hex, rfl, al, nd, hm, hl, hb, hf, hr, hle⟩)
/-- one more key -/
theorem gs_add (hk : knd.is k v = true) (hsc : v.scannable = true) (hnv : (∃ i u, v = .int i u) ∨ ∃ x u, v = .str x u) {Q : Bool → Shared → Prop} (G : GS knd s.heap a L) (room : L.length + 1 < scanBound)
    (hQ : ∀ b h', Heap.SameBut a s.heap h' → GS knd h' a (k :: L) → Q b { s with heap := h' }) : wpAny (model P w) A (setAddHashed a v (knd.hash k)) Q E s := by
  obtain ⟨o, es, ep, t, ks, ho, hex, hd, al, nd, hm, hl, hb, hf, hr, hle⟩ := G
  have el := al.elems
  unfold setAddHashed setAddHashedIn
  refine wpAny_holding (wpAny_bind (wpAny_setState_of ho hd hf ?_))
  dsimp only
  rw [byScan_of hsc hb el, if_pos rfl]
  unfold setAddByScan
  refine wpAny_bind (wpAny_bind (wpAny_rule (wpAny_bind (wpAny_setScan_of hk ho hd hf el ?_))))
  cases hfi : List.findIdx? (fun e => knd.is k e.2) es.toList with
  | some j =>
    obtain ⟨hj, pj, _⟩ := List.findIdx?_eq_some_iff_getElem.mp hfi
    have hin : k ∈ ks := (al.has k).mpr ⟨_, List.getElem_mem hj, pj⟩
    refine wpAny_pure (wpAny_pure (hQ _ s.heap (Heap.SameBut.refl a s.heap) ⟨o, es, ep, t, ks, ho, hex, hd, al, nd, fun i => ?_, Nat.le_succ_of_le hl, hb, hf, hr, hle⟩))
    rw [hm i, List.mem_cons]
    exact ⟨.inr, fun z => z.elim (fun e => e ▸ (hm k).mp hin) id⟩
  | none =>
    have hno : k ∉ ks := fun z => by
      obtain ⟨e, he, q⟩ := (al.has k).mp z
      have c := List.findIdx?_eq_none_iff.mp hfi e he
      rw [q] at c
      cases c
    have gw : ∀ (b : Bool) {s₁ : Shared} {Q' : Unit → Shared → Prop}, Q' () s₁ → wpAny (model P w) A (match b with | true => rule "set.scan.the-table-gave-way" | false => pure ()) Q' E s₁ := fun b s₁ Q' q => by
      cases b
      · exact wpAny_pure q
      · exact wpAny_rule q
    have pm := layNew_perm t es (knd.hash k) v
    have q1 := layNew_fits t es (knd.hash k) v
    have q2 := layNew_ris t es (knd.hash k) v hr
    have q3 := layNew_led t es (knd.hash k) v
    dsimp only
    revert pm q1 q2 q3
    generalize layNew t es (knd.hash k) v = Z
    obtain ⟨es1, t1, wasDummy, gave⟩ := Z
    intro pm q1 q2 q3
    dsimp only at pm q1 q2 q3 ⊢
    rw [Array.toList_push] at pm
    obtain ⟨ks1, pk, al1⟩ := Al.perm (pm.trans (List.perm_append_singleton _ _)) (Al.cons (knd := knd) (k := k) ⟨hk, rfl, hsc⟩ al)
    have ln : es1.size = ks.length + 1 := by
      have e := al1.len
      rw [pk.length_eq, Array.length_toList] at e
      exact e
    have hb1 : es1.size < scanBound := by rw [ln]; omega
    have nd1 : ks1.Nodup := pk.nodup_iff.mpr (List.nodup_cons.mpr ⟨hno, nd⟩)
    have hm1 : ∀ i, i ∈ ks1 ↔ i ∈ k :: L := fun i => by rw [pk.mem_iff, List.mem_cons, List.mem_cons, hm i]
    have hl1 : ks1.length ≤ (k :: L).length := by rw [pk.length_eq, List.length_cons, List.length_cons]; omega
    have hle1 : w.params.followText "set-order" = true ∨ t1.led = true := hle.imp id fun z => q3.trans z
    refine wpAny_bind (gw _ ?_)
    by_cases c : t1.plain = true
    · rw [if_pos c]
      refine wpAny_bind ?_
      rw [hashByValue_scannable 8 hsc]
      refine wpAny_pure ?_
      refine gs_lay (L := k :: L) (fun b s₁ Q' q => by cases b <;> first | exact wpAny_pure q | exact wpAny_rule q) ho hex hd al1 nd1 hm1 hl1 hb1 ?_ ?_ ?_ fun h' sb r => wpAny_pure (hQ _ h' sb r)
      · first | exact q1 | (split <;> first | exact q1 | exact SetTable.fits_plain_off q1)
      · first | exact q2 | (split <;> exact q2)
      · first | exact hle1 | (split <;> exact hle1)
    · rw [if_neg c]
      refine wpAny_bind (wpAny_pure ?_)
      simp only [↓reduceIte]
      exact gs_lay (L := k :: L) (fun b s₁ Q' q => by cases b <;> first | exact wpAny_pure q | exact wpAny_rule q) ho hex hd al1 nd1 hm1 hl1 hb1 q1 q2 hle1 fun h' sb r => wpAny_pure (hQ _ h' sb r)
end
end Gs

set_option Elab.async false
set_option linter.all false
set_option maxRecDepth 100000
set_option maxHeartbeats 4000000
namespace Gs
open PySem L2 PySem.Spec PyProof.Rows
section
variable {P : Program} {w : World}
theorem al_strs {es : List (Int × Value)} {ks : List Str} (h : Al (PySem.strKind P w) es ks) : StrsAre (es.map (·.2)) ks := by
  induction h with
  | nil => exact .nil
  | cons h _ ih =>
    obtain ⟨t, e⟩ := Value.isStrOf_shape h.1
    rw [List.map_cons, e]
    exact .cons _ t ih
variable {A : Around} {E : Value → Shared → Prop} {s : Shared} {a : Addr} {L : List Str}
/-- sorted(set), a set of texts -/
theorem sorted_gs {Q : Value → Shared → Prop} (G : GS (PySem.strKind P w) s.heap a L) (hh : A.handled = none) (h64 : L.length < 64)
    (hQ : ∀ s' p (out : Array Value) (c : Nat) (ss : List Str), (∀ b o, s.heap.get? b = some o → s'.heap.get? b = some o) → s'.gens = s.gens → s'.os = s.os → s.heap.objs.size ≤ p →
      s'.heap.get? p = some (seqObj "list" out c) → StrsAre out.toList ss → sortedS ss = true → ss.Nodup → (∀ x, x ∈ ss ↔ x ∈ L) → ss.length ≤ L.length → Q (.ref p) s') :
    wpAny (model P w) A (call (.builtin "sorted") [.ref a]) Q E s := by
  obtain ⟨o, es, ep, t, ks, ho, hex, hd, al, nd, hm, hl, hb, hf, hr, hle⟩ := G
  have ste := al_strs al
  refine Calls.call_function_entry kind_sorted plain_sorted entry_sorted (args_sorted1 _) ?_
  unfold Builtin.«sorted»
  refine wpAny_bind (m := checkCount "sorted" 1 1 _) (wpAny_pure ?_)
  refine wpAny_bind (collect_set (A := A.in1) hh ⟨o, ho, hex.1, hd⟩ hf hb hr hle fun s1 vs k1 hz g1 o1 pm => ?_)
  have vlen : vs.length = ks.length := by rw [pm.length_eq, List.length_map, al.len]
  have v64 : vs.length < 64 := by rw [vlen]; omega
  have st1 : StrsAre vs (vs.map strOf) := strsAre_map vs fun v hv => ste.all v (pm.mem_iff.mp hv)
  have pk : (vs.map strOf).Perm ks := by
    have q := pm.map strOf
    rwa [ste.strs] at q
  refine wpAny_bind (wpAny_newList ?_ (Nat.le_trans (Nat.le_of_lt v64) (by rw [sizeLine_eq]; omega)))
  have at1 : (s1.heap.push (seqObj "list" vs.toArray 0)).get? s1.heap.objs.size = some (seqObj "list" vs.toArray 0) := Heap.get?_push_size _ rfl
  refine wpAny_bind (wpAny_holding (wpAny_call_entry slot_list_sort ⟨_, at1, rfl⟩ entry_list_sort (list_sort_treeK strKind_oneLt at1 st1.keysOf (fun v₁ v₂ rest e => keyKind_strs (by rw [← e]; exact st1)) v64 fun st' hp hs => ⟨_, rfl, ?_⟩) (args_list_sort _)))
  obtain ⟨ss, h1, h2, h3⟩ := sorted_out_str st1 hp hs
  obtain ⟨c, hc⟩ := sortedHeap_at (vs := vs) (out := (arrOf st').map (·.2)) at1
  have pn := h2.trans pk
  refine wpAny_pure ⟨_, rfl, hQ _ s1.heap.objs.size _ c ss (fun b u e => ?_) g1 o1 hz hc h1 h3 (pn.nodup_iff.mpr nd) (fun x => pn.mem_iff.trans (hm x)) (pn.length_eq ▸ hl)⟩
  have q := k1 b u e
  have hlt := Heap.lt_size q
  show (sortedHeap (s1.heap.push (seqObj "list" vs.toArray 0)) s1.heap.objs.size vs ((arrOf st').map (·.2))).get? b = some u
  rw [sortedHeap_old (Nat.ne_of_lt hlt) (by rw [size_push']; exact Nat.lt_succ_of_lt hlt)]
  exact Heap.get?_push_of_some _ q
end
section
variable {P : Program} {w : World} {κ : Type} [DecidableEq κ] {knd : PySem.KeyKind P w κ} {A : Around} {E : Value → Shared → Prop} {s : Shared}
/-- a value that tells the key k -/
def Told (knd : PySem.KeyKind P w κ) (k : κ) (v : Value) : Prop := knd.is k v = true ∧ v.scannable = true ∧ ((∃ i u, v = .int i u) ∨ ∃ x u, v = .str x u)
theorem gs_fresh {h : Heap} {a : Addr} (ho : h.get? a = some { cls := .type "set", dict := none, data := .set #[] 0 (.fresh 0 0 (!w.params.followText "set-order")) }) : GS knd h a ([] : List κ) := by
  refine ⟨_, #[], 0, _, [], ho, ⟨rfl, rfl, rfl⟩, rfl, .nil, List.nodup_nil, fun _ => Iff.rfl, Nat.le_refl _, by decide, by rfl, List.Pairwise.nil, ?_⟩
  show _ ∨ (!w.params.followText "set-order") = true
  cases w.params.followText "set-order"
  · exact .inr rfl
  · exact .inl rfl
/-- set.update, key by key -/
theorem gs_loop {I : Addr} {fp wr : List Addr} {G : Array GenState → Array GenState → Prop} {n : Nat} {Pv : Nat → Value → Prop} {St : Nat → Shared → Prop} {R : Result → Shared → Prop} (W : WalksS P w A.in1 I fp wr G n Pv St) (S : Addr) (hSf : S ∉ fp)
    (ks : List κ) (hn : n = ks.length) (hb : ks.length + 1 < scanBound) (hval : ∀ i v, Pv i v → ∃ k, ks[i]? = some k ∧ Told knd k v) :
    ∀ (m i : Nat) (s : Shared) (L : List κ), n - i = m → i ≤ n → St i s → L.length = i → (∀ k, k ∈ L ↔ k ∈ ks.take i) → GS knd s.heap S L →
      (∀ s' L', Moved (S :: wr) G s s' → L'.length = n → (∀ k, k ∈ L' ↔ k ∈ ks) → GS knd s'.heap S L' → R (.ok (.ret .none)) s') → codeAny (model P w) A (.builtin "set.update.loop" ⟨[.ref S, .ref I], []⟩) R s := by
  have hSw : S ∉ wr := fun h => hSf (W.sub _ h)
  have sub : ∀ b ∈ wr, b ∈ S :: wr := fun b hb => List.mem_cons_of_mem _ hb
  intro m
  induction m with
  | zero =>
    intro i s L hm hi st hL hk G hR
    obtain rfl : i = n := by omega
    refine codeAny_builtin F.entry_set_update_loop ?_
    rw [Around.under_plainId F.plain_set_update_loop _]
    refine wpAny_bind (W.done s _ _ st fun s' mv => wpAny_pure (hR s' L (mv.mono sub) hL (fun k => ?_) (G.at fun o e => mv.heap S o hSw e)))
    rw [hk k, List.take_of_length_le (Nat.le_of_eq hn.symm)]
  | succ m ih =>
    intro i s L hm hi st hL hk G hR
    have lt : i < n := by omega
    refine codeAny_builtin F.entry_set_update_loop ?_
    rw [Around.under_plainId F.plain_set_update_loop _]
    refine wpAny_bind (W.item i s _ _ lt st fun v s' pv st' mv => ?_)
    obtain ⟨k, ek, tk⟩ := hval i v pv
    have G' : GS knd s'.heap S L := G.at fun o e => mv.heap S o hSw e
    show wpAny _ A.in1 (holding [v] (setAdd S v) >>= _) _ _ s'
    refine wpAny_bind (wpAny_holding ?_)
    unfold setAdd
    refine wpAny_holding (wpAny_bind (knd.pyHash tk.1 ?_))
    refine gs_add (s := { s' with toks := s'.toks + 1 }) tk.1 tk.2.1 tk.2.2 G' (by omega) fun b h' sb G2 => ?_
    refine wpAny_pure ⟨plainId_quiet F.plain_set_update_loop _, ih (i + 1) _ (k :: L) (by omega) lt (W.frame _ s' _ _ st' (Nat.le_succ _) fun c hc o e => ?_) (by rw [List.length_cons, hL]) (fun j => ?_) G2 fun s2 L2 mv2 l2 k2 g2 => ?_⟩
    · rw [sb.2 c (fun z : c = S => hSf (z ▸ hc))]; exact e
    · rw [List.take_add_one, ek, List.mem_cons, hk j]
      simp [or_comm]
    · refine hR s2 L2 (Moved.trans W.gtrans ((mv.mono sub).then_heap (Nat.le_succ _) fun c o hc e => ?_) mv2) l2 k2 g2
      rw [sb.2 c (fun z : c = S => hc (by rw [z]; exact List.mem_cons_self))]; exact e
end
end Gs

set_option Elab.async false
set_option linter.all false
set_option maxRecDepth 100000
set_option maxHeartbeats 4000000
namespace Gs
open PySem L2 PySem.Spec PyProof.Rows
section
variable {P : Program} {w : World} {κ : Type} [DecidableEq κ] {knd : PySem.KeyKind P w κ} {A : Around} {E : Value → Shared → Prop} {s : Shared}
def emptySet (w : World) : Obj := { cls := .type "set", dict := none, data := .set #[] 0 (.fresh 0 0 (!w.params.followText "set-order")) }
/-- set.__init__ of the new set S by a list -/
theorem init_gs {l S : Addr} {items : Array Value} {ks : List κ} {Q : Value → Shared → Prop} {h : Heap} (hh : A.handled = none) (hl : h.IsList l items) (eS : S = h.objs.size) (hit : ∀ (i : Nat) (v : Value), items[i]? = some v → ∃ k, ks[i]? = some k ∧ Told knd k v) (hn : items.size = ks.length) (hb : ks.length + 1 < scanBound)
    (hQ : ∀ (h' : Heap) (tk : Nat) (L : List κ), (∀ b o, h.get? b = some o → h'.get? b = some o) → GS knd h' S L → (∀ k, k ∈ L ↔ k ∈ ks) → L.length = ks.length → Q .none { s with heap := h', toks := tk }) :
    codeAny (model P w) A (.call (.builtin "set.__init__") ⟨[.ref S, .ref l], []⟩) (wants Q E) { s with heap := h.push (emptySet w) } := by
  subst eS
  have atS : (h.push (emptySet w)).get? h.objs.size = some (emptySet w) := Heap.get?_push_size _ rfl
  refine codeAny_call_builtin F.called_set.init.plain F.entry_set_init (check_set_init_1 ⟨_, atS, rfl⟩ ?_)
  obtain ⟨ol, hol, hcl, nl, hdl⟩ := hl
  obtain ⟨c0, d0, dt0, sl0⟩ := ol
  simp only at hcl hdl
  subst hcl; subst hdl
  have hol' : (h.push (emptySet w)).get? l = some { cls := .type "list", dict := d0, data := .seq items nl, slots := sl0 } := Heap.get?_push_of_some _ hol
  have f1 := F.sub_list_set
  have f2 := F.sub_list_frozenset
  have f3 : (Value.type "list" == Value.type "dict") = false := by decide
  have il : (h.push (emptySet w)).IsList l items := ⟨_, hol', rfl, nl, rfl⟩
  unfold Builtin.«set.__init__» noKeywords Builtin.Frozenset.updateFrom
  generalize hPI : pyIter = PI
  wp_walk
  subst hPI
  refine wpAny_pyIter_list il ?_
  refine wpAny_bind (wpAny_runValue ?_)
  have lt : l < h.objs.size := Heap.lt_size hol
  have sz : (h.push (emptySet w)).objs.size = h.objs.size + 1 := Heap.size_push ..
  have hh3 : A.in1.in1.handled = none := by simp [hh]
  have neI : l ≠ (h.push (emptySet w)).objs.size := by rw [sz]; exact Nat.ne_of_lt (Nat.lt_succ_of_lt lt)
  have nS : h.objs.size ∉ [(h.push (emptySet w)).objs.size, l] := by
    rw [sz]
    simp only [List.mem_cons, List.not_mem_nil, or_false, not_or]
    exact ⟨Nat.ne_of_lt (Nat.lt_succ_self _), Nat.ne_of_gt lt⟩
  refine gs_loop (knd := knd) ((Walks.list hh3 _ l neI items).toS) h.objs.size nS ks hn hb hit (items.size - 0) 0 _ [] (by omega) (Nat.zero_le _) ⟨⟨_, Heap.get?_push_size _ rfl, rfl, rfl⟩, (il.push _)⟩ rfl (fun k => by simp) (gs_fresh (Heap.get?_push_of_some _ atS)) fun s' L mv hL hk G => ?_
  obtain ⟨h', g', dr', tk', os'⟩ := s'
  obtain rfl : g' = s.gens := mv.gens
  obtain rfl : dr' = s.drawn := mv.drawn
  obtain rfl : os' = s.os := mv.os
  refine wpAny_pure ?_
  refine wpAny_pure (hQ h' tk' L (fun b o e => ?_) G hk (hL.trans hn))
  have hb0 := Heap.lt_size e
  refine mv.heap b o ?_ (Heap.get?_push_of_some _ (Heap.get?_push_of_some _ e))
  rw [sz]
  simp only [List.mem_cons, List.not_mem_nil, or_false, not_or]
  exact ⟨Nat.ne_of_lt hb0, Nat.ne_of_lt (Nat.lt_succ_of_lt hb0)⟩
set_option maxHeartbeats 8000000 in
/-- set(l), l a list -/
theorem call_gs {l : Addr} {items : Array Value} {ks : List κ} {Q : Value → Shared → Prop} (hh : A.handled = none) (hl : s.heap.IsList l items) (hit : ∀ (i : Nat) (v : Value), items[i]? = some v → ∃ k, ks[i]? = some k ∧ Told knd k v) (hn : items.size = ks.length) (hb : ks.length + 1 < scanBound)
    (hQ : ∀ (h' : Heap) (tk : Nat) (L : List κ), (∀ b o, s.heap.get? b = some o → h'.get? b = some o) → GS knd h' s.heap.objs.size L → (∀ k, k ∈ L ↔ k ∈ ks) → L.length = ks.length → Q (.ref s.heap.objs.size) { s with heap := h', toks := tk }) :
    wpAny (model P w) A (call (.type "set") [.ref l]) Q E s := by
  obtain ⟨c, tl, hmro⟩ := F.called_set.mro
  have e1 := F.called_set.made
  have e2 := F.called_set.sub
  refine wpAny_call (codeAny_of_tree ?_)
  show wpAny _ _ (callAny (.type "set") _) _ _ _
  refine wpAny_pure ⟨Code.quiet_builtin _ (by decide +kernel), codeAny_builtin F.entry_type_call ?_⟩
  rw [Around.under_plain (weight_type_call_type "set" [.ref l] []) rfl]
  have e3 := F.called_set.notType
  have e4 := F.called_set.canCreate
  have e5 := F.typeCall_set_1 (.ref l)
  repeat (any_goals (first | assumption | wp_step))
  refine codeAny_mono (code_set_led1 (.ref l) (E := E) (Q₁ := fun obj s₁ => obj = .ref s.heap.objs.size ∧ s₁ = { s with heap := s.heap.push (emptySet w) }) ⟨rfl, rfl⟩) fun r s₁ hr => ?_
  cases r with
  | error e => exact hr
  | ok fl =>
    cases fl with
    | ret obj =>
      obtain ⟨rfl, rfl⟩ := hr
      have atS : (s.heap.push (emptySet w)).get? s.heap.objs.size = some (emptySet w) := Heap.get?_push_size _ rfl
      have hT : Shared.TypeIs { s with heap := s.heap.push (emptySet w) } (.ref s.heap.objs.size) "set" := ⟨_, atS, rfl⟩
      have e6 := F.called_set.init.lookup
      have e7 := F.called_set.init.bind (.ref s.heap.objs.size)
      repeat (any_goals (first | assumption | wp_step))
      refine codeAny_mono (init_gs (knd := knd) (ks := ks) (s := s) (h := s.heap) (E := E) (Q := fun r s₂ => r = .none ∧ ∃ h' tk L, s₂ = { s with heap := h', toks := tk } ∧ (∀ b o, s.heap.get? b = some o → h'.get? b = some o) ∧ GS knd h' s.heap.objs.size L ∧ (∀ k, k ∈ L ↔ k ∈ ks) ∧ L.length = ks.length)
        (by simp [hh]) hl rfl hit hn hb fun h' tk L a b c d => ⟨rfl, h', tk, L, rfl, a, b, c, d⟩) fun r₂ s₂ hr₂ => ?_
      cases r₂ with
      | error e => exact hr₂
      | ok fl₂ =>
        cases fl₂ with
        | ret r =>
          obtain ⟨rfl, h', tk, L, rfl, a, b, c, d⟩ := hr₂
          repeat (any_goals (first | assumption | wp_step))
          exact hQ h' tk L a b c d
        | _ => exact hr₂.elim
    | _ => exact hr.elim
end
/-! ### sorted(set(l)), l a list of texts -/
def rSetS (K : PySem.W.Frag) (P : Program) (w : World) : List V → Hp → VK → Prop := fun xs H Q => ∃ (l : Addr) (ss : List Str), xs = [.ref l] ∧ SqL K H l (ss.map V.str) ∧ ss.length < 60 ∧
  ∀ p L, H p = none → (∀ x, x ∈ L ↔ x ∈ ss) → L.length = ss.length → Q (.ref p) (upd H p (.ext fun h => GS (PySem.strKind P w) h p L))
section
variable {X : Cx}
theorem gs_ok {P : Program} {w : World} {H : Hp} {h : Heap} {a : Addr} {L : List Str} (G : GS (PySem.strKind P w) h a L) : ObjOk P w H h a (.ext fun h => GS (PySem.strKind P w) h a L) := by
  obtain ⟨o, es, ep, t, ks, ho, r⟩ := G
  exact ⟨⟨o, es, ep, t, ks, ho, r⟩, ⟨o, ho⟩, fun h1 h2 G k => G.at fun o e => k _ e⟩
theorem cr_setS (hc : X.calm = true) : CallR X (.type "set") (rSetS X.K X.prog X.w) := by
  intro pins s σ H xs us Q I r h
  obtain ⟨l, ss, rfl, hs, hl, q⟩ := h
  obtain ⟨its, rv, il, hz⟩ := I.list hs
  obtain ⟨u, rfl, ru⟩ := vals1 r
  obtain rfl : u = Value.ref l := ru
  have st := rv.strs
  have ln : its.length = ss.length := by rw [← rv.length, List.length_map]
  refine call_gs (knd := PySem.strKind X.prog X.w) (ks := ss) (items := its.toArray) (I.ok.hd hc) il.isList (fun i v e => ?_) (by simpa using ln) (by unfold scanBound; omega) fun h' tk L kp G hm hL => ?_
  · have hi : i < ss.length := by
      have := (Array.getElem?_eq_some_iff.mp e).1
      simp at this; omega
    obtain ⟨t, ev⟩ := SS.strs_at st i v (by simpa using e)
    refine ⟨ss[i], List.getElem?_eq_getElem hi, ?_⟩
    have e2 : ss.getD i Str.empty = ss[i] := by simp [List.getD, hi]
    rw [ev, e2]
    exact ⟨strKind_is _ _ _ _, rfl, .inr ⟨_, _, rfl⟩⟩
  · have hn : H s.heap.objs.size = none := I.hok.fresh (Nat.le_refl _)
    exact ⟨.ref s.heap.objs.size, _, I.laid (t' := tk) kp (Nat.le_refl _) (gs_ok G), rfl, q _ L hn hm hL⟩
def rSortS (P : Program) (w : World) : List V → Hp → VK → Prop := fun xs H Q => ∃ (a : Addr) (L : List Str), xs = [.ref a] ∧ H a = some (.ext fun h => GS (PySem.strKind P w) h a L) ∧ L.length < 60 ∧
  ∀ (ss : List Str) (p : Addr), sortedS ss = true → ss.Nodup → (∀ x, x ∈ ss ↔ x ∈ L) → ss.length ≤ L.length → H p = none → Q (.ref p) (upd H p (.lst (ss.map V.str)))
theorem cr_sortS (hc : X.calm = true) : CallR X (.builtin "sorted") (rSortS X.prog X.w) := by
  intro pins s σ H xs us Q I r h
  obtain ⟨a, L, rfl, ha, hl, q⟩ := h
  obtain ⟨u, rfl, ru⟩ := vals1 r
  obtain rfl : u = Value.ref a := ru
  have G : GS (PySem.strKind X.prog X.w) s.heap a L := (I.hok a _ ha).1
  refine sorted_gs G (I.ok.hd hc) (by omega) fun s' p out c ss k g o hp hg hi hs nd hm hl' => ?_
  have hlen : (ss.map V.str).length ≤ sizeLine := by rw [List.length_map, sizeLine_eq]; omega
  have hn : H p = none := I.hok.fresh hp
  have J : Inv X pins σ (upd H p (.lst (ss.map V.str))) { s with heap := s'.heap, gens := s'.gens, drawn := s'.drawn, toks := s'.toks } :=
    I.call (ch := []) (Un.laid k hp hn) (I.hok.laid k hp ⟨hlen, out.toList, c, vals_of_strs hi, hg⟩) (by rw [g]; exact I.bare) (fun _ z => nomatch z)
  have e : s' = { s with heap := s'.heap, gens := s'.gens, drawn := s'.drawn, toks := s'.toks } := by
    obtain ⟨_, _, _, _, _⟩ := s'
    obtain ⟨_, _, _, _, _⟩ := s
    cases o
    rfl
  rw [e]
  exact ⟨.ref p, _, J, rfl, q ss p hs nd hm hl' hn⟩
end
end Gs

set_option Elab.async false
set_option linter.all false
set_option maxRecDepth 100000
set_option maxHeartbeats 4000000
namespace Own
open PySem L2 Lay PySem.Spec PyProof.Rows ClX
/-! ### lists of entries -/
/-- x is a tuple that is the entry e -/
def EntT (H : Hp) (x : V) (e : Ent) : Prop := ∃ t, x = .ref t ∧ H t = some (.tup [.int e.1, .int e.2.1, .str e.2.2])
inductive EL (H : Hp) : List V → List Ent → Prop where
  | nil : EL H [] []
  | cons {x : V} {e : Ent} {xs : List V} {es : List Ent} (h : EntT H x e) (r : EL H xs es) : EL H (x :: xs) (e :: es)
section
variable {H H' : Hp} {x y : V} {e f : Ent} {xs ys : List V} {es fs : List Ent}
theorem EntT.same (h : EntT H x e) (s : Same H H') : EntT H' x e := by
  obtain ⟨t, rfl, h⟩ := h
  exact ⟨t, rfl, s _ _ h⟩
theorem EntT.fn (h : EntT H x e) (h' : EntT H x f) : e = f := by
  obtain ⟨t, rfl, h⟩ := h
  obtain ⟨t', z, h'⟩ := h'
  cases z
  rw [h] at h'
  obtain ⟨a, b, c⟩ := e
  obtain ⟨a', b', c'⟩ := f
  simp only [Option.some.injEq, HO.tup.injEq, List.cons.injEq, V.int.injEq, V.str.injEq, and_true] at h'
  obtain ⟨rfl, rfl, rfl⟩ := h'
  rfl
theorem EL.same (h : EL H xs es) (s : Same H H') : EL H' xs es := by
  induction h with
  | nil => exact .nil
  | cons h _ ih => exact .cons (h.same s) ih
theorem EL.len (h : EL H xs es) : xs.length = es.length := by
  induction h with
  | nil => rfl
  | cons _ _ ih => rw [List.length_cons, List.length_cons, ih]
theorem EL.app (h : EL H xs es) (g : EL H ys fs) : EL H (xs ++ ys) (es ++ fs) := by
  induction h with
  | nil => exact g
  | cons h _ ih => exact .cons h ih
theorem EL.at (h : EL H xs es) {i : Nat} (q : xs[i]? = some x) : ∃ e, es[i]? = some e ∧ EntT H x e := by
  induction h generalizing i with
  | nil => simp at q
  | cons h _ ih =>
    cases i with
    | zero => simp at q; subst q; exact ⟨_, rfl, h⟩
    | succ i => simp at q; obtain ⟨e, h1, h2⟩ := ih q; exact ⟨e, by simpa using h1, h2⟩
theorem EL.of_at (n : xs.length = es.length) (h : ∀ (i : Nat) (x : V) (e : Ent), xs[i]? = some x → es[i]? = some e → EntT H x e) : EL H xs es := by
  induction xs generalizing es with
  | nil => cases es with | nil => exact .nil | cons _ _ => cases n
  | cons x xs ih =>
    cases es with
    | nil => cases n
    | cons e es => exact .cons (h 0 _ _ rfl rfl) (ih (Nat.succ.inj n) fun i x e a b => h (i + 1) x e a b)
theorem EL.mem (h : EL H xs es) (q : x ∈ xs) : ∃ e ∈ es, EntT H x e := by
  obtain ⟨i, hi⟩ := List.mem_iff_getElem?.mp q
  obtain ⟨e, h1, h2⟩ := h.at hi
  exact ⟨e, List.mem_of_getElem? h1, h2⟩
theorem EL.take (h : EL H xs es) (n : Nat) : EL H (xs.take n) (es.take n) := by
  induction h generalizing n with
  | nil => simp; exact .nil
  | cons h _ ih =>
    cases n with
    | zero => simp; exact .nil
    | succ n => simp; exact .cons h (ih n)
theorem EL.drop (h : EL H xs es) (n : Nat) : EL H (xs.drop n) (es.drop n) := by
  induction h generalizing n with
  | nil => simp; exact .nil
  | cons h r ih =>
    cases n with
    | zero => simp; exact .cons h r
    | succ n => simp; exact ih n
/-- what the heap says of a tuple -/
def entOf (H : Hp) : V → Ent
  | .ref t => match H t with
    | some (.tup [.int a, .int b, .str c]) => (a, b, c)
    | _ => (0, 0, "")
  | _ => (0, 0, "")
theorem EntT.of (h : EntT H x e) : entOf H x = e := by
  obtain ⟨t, rfl, h⟩ := h
  show (match H t with | some (.tup [.int a, .int b, .str c]) => (a, b, c) | _ => (0, 0, "")) = e
  rw [h]
theorem EL.map (h : EL H xs es) : es = xs.map (entOf H) := by
  induction h with
  | nil => rfl
  | cons h _ ih => rw [List.map_cons, h.of, ← ih]
theorem EL.of_map (h : ∀ x ∈ xs, EntT H x (entOf H x)) : EL H xs (xs.map (entOf H)) := by
  induction xs with
  | nil => exact .nil
  | cons x xs ih => exact .cons (h x (List.mem_cons_self ..)) (ih fun y hy => h y (List.mem_cons_of_mem _ hy))
theorem EL.ents (h : EL H xs es) : ∀ x ∈ xs, EntT H x (entOf H x) := fun x hx => by
  obtain ⟨e, _, q⟩ := h.mem hx
  rw [q.of]; exact q
theorem EL.perm (h : EL H xs es) (p : ys.Perm xs) : EL H ys (ys.map (entOf H)) ∧ (ys.map (entOf H)).Perm es := by
  refine ⟨.of_map fun y hy => h.ents y (p.mem_iff.mp hy), ?_⟩
  rw [h.map]
  exact p.map _
end
/-! ### < and sorted -/
/-- what x < y says -/
inductive Cm (H : Hp) : V → V → Bool → Prop where
  | ent {x y : V} {e f : Ent} (h : EntT H x e) (g : EntT H y f) : Cm H x y (entLt e f)
  | str (a b : Str) : Cm H (.str a) (.str b) (strLt a b)
section
variable {X : Cx}
theorem isE_of {pins : List (Addr × Obj)} {σ : L2.St} {H : Hp} {s : Shared} {x : V} {u : Value} {e : Ent} (I : Inv X pins σ H s) (r : RelV x u) (h : EntT H x e) : IsE s.heap u e := by
  obtain ⟨t, rfl, h⟩ := h
  cases (show u = Value.ref t from r)
  obtain ⟨_, its, rv, o, ho, hc, n, hd⟩ := (show ObjOk X.prog X.w H s.heap t (.tup _) from I.hok t _ h)
  cases rv with
  | cons r1 rv =>
    cases rv with
    | cons r2 rv =>
      cases rv with
      | cons r3 rv =>
        cases rv
        obtain ⟨t1, rfl⟩ := r1
        obtain ⟨t2, rfl⟩ := r2
        obtain ⟨t3, rfl⟩ := r3
        exact ⟨t, o, t1, t2, t3, n, rfl, ho, hc, hd⟩
def rLtV : R2 := fun x y H Q => ∃ b, Cm H x y b ∧ Q (.bl b) H
theorem op_ltV (hu : X.A.units < cLine) : OpR X (compareOp .Lt) rLtV := by
  intro pins s σ H x y v u Q I rx ry h
  obtain ⟨b, c, q⟩ := h
  cases c with
  | str a b => exact op_lt_str pins s σ H _ _ v u Q I rx ry ⟨a, b, rfl, rfl, q⟩
  | @ent x y e f h g =>
    obtain ⟨a, o, t1, t2, t3, n, rfl, ho, hc, hd⟩ := isE_of I rx h
    obtain ⟨a', o', u1, u2, u3, n', rfl, ho', hc', hd'⟩ := isE_of I ry g
    obtain ⟨x1, x2, x3⟩ := e
    obtain ⟨y1, y2, y3⟩ := f
    have R := Ob.RcOp.tuples_lt (A := X.A) (s := s) (e := fun j => match j with | 0 => decide (x1 = y1) | 1 => decide (x2 = y2) | _ => decide (x3 = y3)) (r := fun j => match j with | 0 => decide (x1 < y1) | 1 => decide (x2 < y2) | _ => strLt x3 y3)
      ⟨o, ho, hc, n, hd⟩ ⟨o', ho', hc', n', hd'⟩ hu (fun j h1 h2 => ?_) (fun j h1 h2 _ => ?_)
    · have z : wpAny (model X.prog X.w) X.A (compareOp .Lt (.ref a) (.ref a')) (EP X pins σ Q) X.xe s := by
        refine R X.prog X.w X.xe (EP X pins σ Q) ?_
        refine ⟨.bl (entLt (x1, x2, x3) (y1, y2, y3)), H, I, ?_, q⟩
        show Value.bool _ = Value.bool _
        congr 1
        show Ob.lexAt _ _ (decide (3 < 3)) 0 3 = _
        simp only [Ob.lexAt, entLt]
        by_cases c1 : x1 = y1
        · by_cases c2 : x2 = y2
          · by_cases c3 : x3 = y3
            · subst c3; simp [c1, c2, tot_str.irr]
            · simp [c1, c2, c3]
          · simp [c1, c2]
        · simp [c1]
      exact z
    · have bq : ∀ {α : Type} [DecidableEq α] (p q : α), (p == q) = decide (p = q) := fun p q => by
        by_cases z : p = q
        · rw [decide_eq_true z]; exact beq_iff_eq.mpr z
        · rw [decide_eq_false z]; exact beq_eq_false_iff_ne.mpr z
      match j, h1, h2 with
      | 0, _, _ => show SeqAt.EqAt _ _ (.int x1 t1) (.int y1 u1) (decide (x1 = y1)); rw [← bq]; exact SeqAt.EqAt.int_int _ _ _ _
      | 1, _, _ => show SeqAt.EqAt _ _ (.int x2 t2) (.int y2 u2) (decide (x2 = y2)); rw [← bq]; exact SeqAt.EqAt.int_int _ _ _ _
      | 2, _, _ =>
        show SeqAt.EqAt _ _ (.str x3 t3) (.str y3 u3) (decide (x3 = y3))
        have z := SeqAt.EqAt.str_str (A := X.A.in1) (s := s) x3 t3 y3 u3
        have e : (x3 == y3) = decide (x3 = y3) := by
          by_cases c : x3 = y3
          · subst c; simp
          · rw [decide_eq_false c]; exact beq_eq_false_iff_ne.mpr c
        rw [e] at z; exact z
      | j + 3, h1, _ => exact absurd h1 (by simp)
    · match j, h1, h2 with
      | 0, _, _ => exact Ob.RcOp.lt_int _ _ _ _
      | 1, _, _ => exact Ob.RcOp.lt_int _ _ _ _
      | 2, _, _ => exact fun prog w E Q hq => PyProof.Rows.lt_str hq
      | j + 3, h1, _ => exact absurd h1 (by simp)
/-- sorted(xs), xs a list of entries -/
def rSortE (K : PySem.W.Frag) : List V → Hp → VK → Prop := fun vs H Q => ∃ (a : Addr) (xs : List V) (es : List Ent), vs = [.ref a] ∧ SqL K H a xs ∧ EL H xs es ∧
  ∀ ys fs p, EL H ys fs → Sd entLt fs → fs.Perm es → H p = none → Q (.ref p) (upd H p (.lst ys))
theorem cr_sortE : CallR X (.builtin "sorted") (rSortE X.K) := by
  intro pins s σ H vs us Q I r h
  obtain ⟨a, xs, es, rfl, hs, el, q⟩ := h
  obtain ⟨its, rv, hl, hz⟩ := I.list hs
  obtain ⟨u, rfl, ru⟩ := vals1 r
  obtain rfl : u = Value.ref a := ru
  obtain ⟨e1, e2⟩ := refs_back rv fun x m => by
    obtain ⟨e, _, t, h, _⟩ := el.mem m
    exact ⟨t, h⟩
  have hk : ∀ v ∈ its, IsE s.heap v (entOf H (backV v)) := fun v hv => by
    obtain ⟨t, rfl⟩ := e2 v hv
    have hm : V.ref t ∈ xs := by rw [e1]; exact List.mem_map.mpr ⟨_, hv, rfl⟩
    exact isE_of I (x := .ref t) rfl (el.ents _ hm)
  refine SrtO.sorted_ord (ltv := fun v u => entLt (entOf H (backV v)) (entOf H (backV u))) ⟨fun x y => tot_ent.swo.asym _ _, fun x y z => tot_ent.swo.tr _ _ _⟩ hl.isList (by rw [← rv.length]; exact hz) (fun h2 h₁ b hb kk => ?_) fun out hs hb => ?_
  · refine ents_sortableO (s := { s with heap := h₁ }) (k := fun v => entOf H (backV v)) (by omega) (fun v hv => (hk v hv).keeps fun b o e _ => (kk b o e).2) fun o e => ?_
    have e' : some o = some (seqObj "list" its.toArray 0) := e.symm.trans hb
    cases e'
    intro c
    exact absurd (Value.type.inj c) (by decide)
  · obtain ⟨n, hn⟩ := sortedAll_at s.heap its out.toArray
    have h3 : ∀ u ∈ out, ∃ a, u = Value.ref a := fun u hu => e2 u (hb.perm.mem_iff.mp hu)
    have pm : (out.map backV).Perm xs := by rw [e1]; exact hb.perm.map _
    obtain ⟨el2, pm2⟩ := el.perm pm
    have hlen : (out.map backV).length ≤ sizeLine := by rw [pm.length_eq]; exact hz
    refine ⟨.ref _, upd H (s.heap.objs.size + 1) (.lst (out.map backV)), I.laid (t' := s.toks) (fun _ _ => sortedAll_old) (Nat.le_succ _) ⟨hlen, out, n, vals_back h3, hn⟩, rfl, q _ _ _ el2 ?_ pm2 (I.hok.fresh (Nat.le_succ _))⟩
    have z : out.Pairwise (fun v u => entLt (entOf H (backV u)) (entOf H (backV v)) = false) := hs
    show ((out.map backV).map (entOf H)).Pairwise _
    rw [List.map_map]
    exact List.Pairwise.map _ (fun a b h => h) z
end
end Own

set_option Elab.async false
set_option linter.all false
set_option maxRecDepth 100000
set_option maxHeartbeats 4000000
namespace Own
open PySem L2 Lay PySem.Spec PyProof.Rows ClX
section
variable {X : Cx} {k : Nat} {f g C : Addr} {sp : Sp}
/-- the answer is a truth, a count, a text -/
def asB (Q : VK) : VK := fun v H => ∃ b, v = .bl b ∧ Q (.bl b) H
def asN (Q : VK) : VK := fun v H => ∃ i : Nat, v = .int i ∧ i < 1000000 ∧ Q (.int i) H
def asS (Q : VK) : VK := fun v H => ∃ z, v = .str z ∧ Q (.str z) H
theorem run_own {pins : List (Addr × Obj)} {σ : L2.St} {H : Hp} {s : Shared} {A : Around} {us : List Value} {vs : List V} {Q : VK} (F : FnP X.prog X.w X.K X.mg X.base k g sp) (hr : Room k A) (hg : A.guards = some []) (e0 : Env0 X.prog X.w X.K X.mg X.base A X.stack s H)
    (I : Inv X pins σ H s) (r : Vals vs us) (h : sp vs H Q E0) : wpAny (model X.prog X.w) A (call (.ref g) us) (EP X pins σ Q) X.xe s := wpAny_call (run_P F hr hg e0 I r h)
/-- x in o -/
def rInP (C : Addr) (sp : Sp) : R2 := fun x y H Q => ∃ a dx fs, y = .ref a ∧ H a = some (.ins C dx fs) ∧ sp [.ref a, x] H (asB Q) E0
theorem op_inP (hs : PySem.W.findIn X.K (.ref C) "__contains__" = some (some (.ref g))) (hf : PySem.W.isFn X.K (.ref g) = true) (F : FnP X.prog X.w X.K X.mg X.base k g sp) (hr : Room k X.A) (hg : X.A.guards = some []) : OpR X (compareOp .In) (rInP C sp) := by
  intro pins s σ H x y v u Q I rx ry h
  obtain ⟨a, dx, fs, rfl, ha, q⟩ := h
  cases (show u = Value.ref a from ry)
  obtain ⟨mA, O, _⟩ := ins_get I.hok ha
  obtain ⟨od, J, _⟩ := O.look
  show wpAny (model X.prog X.w) X.A (contains (Value.ref a) v >>= fun b => pure (Value.bool b)) (EP X pins σ Q) X.xe s
  refine wpAny_bind (PySem.W.own_contains I.kIn J hs hf (wpAny_mono (run_own (vs := [.ref a, x]) (us := [.ref a, v]) F hr hg I.env0 I (.cons rfl (.cons rx .nil)) q) (fun w s' z => ?_) fun _ _ e => e))
  obtain ⟨v', H', I', rv, b, rfl, q'⟩ := z
  cases (show w = Value.bool b from rv)
  exact ⟨b, rfl, wpAny_pure ⟨.bl b, H', I', rfl, q'⟩⟩
/-- len(o) -/
def rLenP (C : Addr) (sp : Sp) : List V → Hp → VK → Prop := fun xs H Q => ∃ a dx fs, xs = [.ref a] ∧ H a = some (.ins C dx fs) ∧ sp [.ref a] H (asN Q) E0
theorem call_lenP (hs : PySem.W.findIn X.K (.ref C) "__len__" = some (some (.ref g))) (hf : PySem.W.isFn X.K (.ref g) = true) (F : FnP X.prog X.w X.K X.mg X.base k g sp) (hr : Room (k + 1) X.A) (hg : X.A.guards = some []) : CallR X (.builtin "len") (rLenP C sp) := by
  intro pins s σ H xs us Q I r h
  obtain ⟨a, dx, fs, rfl, ha, q⟩ := h
  obtain ⟨u, rfl, ru⟩ := vals1 r
  obtain rfl : u = Value.ref a := ru
  obtain ⟨mA, O, _⟩ := ins_get I.hok ha
  obtain ⟨od, J, _⟩ := O.look
  obtain ⟨m, hF⟩ := I.fr
  refine PySem.W.len_K hF I.ok.mod.kin J hs hf (wpAny_mono (run_own (vs := [.ref a]) (us := [.ref a]) F hr.in1 (g_in1 hg) I.env0.in1 I (.cons rfl .nil) q) (fun w s' z => ?_) fun _ _ e => e)
  obtain ⟨v', H', I', rv, i, rfl, hi, q'⟩ := z
  obtain ⟨t, rfl⟩ := rv
  exact ⟨⟨by omega, by omega⟩, ⟨.int i, H', I'.tok _, ⟨_, rfl⟩, q'⟩⟩
/-- repr(o) -/
def rReprP (C : Addr) (sp : Sp) : List V → Hp → VK → Prop := fun xs H Q => ∃ a dx fs, xs = [.ref a] ∧ H a = some (.ins C dx fs) ∧ sp [.ref a] H (asS Q) E0
theorem call_reprP (hs : PySem.W.findIn X.K (.ref C) "__repr__" = some (some (.ref g))) (hf : PySem.W.isFn X.K (.ref g) = true) (F : FnP X.prog X.w X.K X.mg X.base k g sp) (hr : Room (k + 1) X.A) (hg : X.A.guards = some []) : CallR X (.builtin "repr") (rReprP C sp) := by
  intro pins s σ H xs us Q I r h
  obtain ⟨a, dx, fs, rfl, ha, q⟩ := h
  obtain ⟨u, rfl, ru⟩ := vals1 r
  obtain rfl : u = Value.ref a := ru
  obtain ⟨mA, O, _⟩ := ins_get I.hok ha
  obtain ⟨od, J, _⟩ := O.look
  obtain ⟨m, hF⟩ := I.fr
  refine PySem.W.repr_K hr.in1.units0 hF I.ok.mod.kin J hs hf (wpAny_mono (run_own (vs := [.ref a]) (us := [.ref a]) F hr.in1 (g_in1 hg) I.env0.in1 I (.cons rfl .nil) q) (fun w s' z => ?_) fun _ _ e => e)
  obtain ⟨v', H', I', rv, b, rfl, q'⟩ := z
  obtain ⟨t, rfl⟩ := rv
  exact ⟨.str b, H', I', ⟨t, rfl⟩, q'⟩
/-- o == y, o != y -/
def rEqP (K : PySem.W.Frag) (C : Addr) (sp : Sp) (neg : Bool) : R2 := fun x y H Q => ∃ a dx fs t, x = .ref a ∧ H a = some (.ins C dx fs) ∧ TyX K H y t ∧ PySem.W.notFirst K C t = true ∧
  sp [.ref a, y] H (fun v H' => ∃ b, v = .bl b ∧ Q (.bl (if neg then !b else b)) H') E0
theorem op_eqP (hs : PySem.W.findIn X.K (.ref C) "__eq__" = some (some (.ref g))) (hf : PySem.W.isFn X.K (.ref g) = true) (F : FnP X.prog X.w X.K X.mg X.base k g sp) (hr : Room k X.A) (hg : X.A.guards = some []) : OpR X (compareOp .Eq) (rEqP X.K C sp false) := by
  intro pins s σ H x y v u Q I rx ry h
  obtain ⟨a, dx, fs, t, rfl, ha, ty, nf, q⟩ := h
  cases (show v = Value.ref a from rx)
  obtain ⟨mA, O, _⟩ := ins_get I.hok ha
  obtain ⟨od, J, _⟩ := O.look
  obtain ⟨m, hF⟩ := I.fr
  obtain ⟨Pz, Z, pz, _⟩ := kit_of I ry ty
  show wpAny (model X.prog X.w) X.A (richCompare .Eq (.ref a) u) (EP X pins σ Q) X.xe s
  refine PySem.W.cmp_K (op := .Eq) (tb := t) hr.units0 hF I.ok.mod.kin J (Z.ty _ _ I.kIn pz) nf hs hf (wpAny_mono (run_own (vs := [.ref a, y]) (us := [.ref a, u]) F hr hg I.env0 I (.cons rfl (.cons ry .nil)) q) (fun w s' z => ?_) fun _ _ e => e)
  obtain ⟨v', H', I', rv, b, rfl, q'⟩ := z
  cases (show w = Value.bool b from rv)
  exact ⟨.bl b, H', I', rfl, q'⟩
theorem op_neP (hs : PySem.W.findIn X.K (.ref C) "__eq__" = some (some (.ref g))) (hf : PySem.W.isFn X.K (.ref g) = true) (hne : PySem.W.findIn X.K (.ref C) "__ne__" = some (some (.builtin "object.__ne__"))) (hm : PySem.W.mroIn X.K C (.type "object") = some true)
    (F : FnP X.prog X.w X.K X.mg X.base k g sp) (hr : Room (k + 1) X.A) (hg : X.A.guards = some []) : OpR X (compareOp .NotEq) (rEqP X.K C sp true) := by
  intro pins s σ H x y v u Q I rx ry h
  obtain ⟨a, dx, fs, t, rfl, ha, ty, nf, q⟩ := h
  cases (show v = Value.ref a from rx)
  obtain ⟨mA, O, _⟩ := ins_get I.hok ha
  obtain ⟨od, J, _⟩ := O.look
  obtain ⟨Pz, Z, pz, _⟩ := kit_of I ry ty
  show wpAny (model X.prog X.w) X.A (richCompare .NotEq (.ref a) u) (EP X pins σ Q) X.xe s
  refine PySem.W.own_ne (tb := t) (by have := hr.un; omega) I.kIn J (Z.ty _ _ I.kIn pz) nf hs hf hne hm (wpAny_mono (run_own (vs := [.ref a, y]) (us := [.ref a, u]) F hr.in1 (g_in1 hg) I.env0.in1 I (.cons rfl (.cons ry .nil)) q) (fun w s' z => ?_) fun _ _ e => e)
  obtain ⟨v', H', I', rv, b, rfl, q'⟩ := z
  cases (show w = Value.bool b from rv)
  exact ⟨b, rfl, .bl (!b), H', I', rfl, q'⟩
/-! ### texts of tuples -/
/-- repr(t), t a tuple -/
def rReprT (K : PySem.W.Frag) : List V → Hp → VK → Prop := fun xs H Q => ∃ (p : Addr) (as : List Addr) (ys : List V) (ts : List Str), xs = [.ref p] ∧ H p = some (.tup ys) ∧ Rp.SwL K H as ys ts ∧ p ∉ as ∧ as.length ≤ 30 ∧
  (tupleText ts).length ≤ sizeLine ∧ Q (.str (tupleText ts)) H
theorem call_reprT (hg : X.A.guards = some []) (hu : X.A.units + 200 < cLine) : CallR X (.builtin "repr") (rReprT X.K) := by
  intro pins s σ H xs us Q I r h
  obtain ⟨p, as, ys, ts, rfl, hp, l, hn, ha, hz, q⟩ := h
  obtain ⟨u, rfl, e⟩ := vals1 r
  cases (show u = Value.ref p from e)
  obtain ⟨_, its, rv, o, e1, e2, m, e3⟩ := (show ObjOk X.prog X.w H s.heap p (.tup ys) from I.hok p _ hp)
  have al := Rp.swl_repr I.hok I.kIn l rv (fun t ht => Nat.le_trans (tupleText_mem_le ht) hz)
  refine call_repr_slot (by omega) ⟨_, e1, e2⟩ F.slot_tuple_repr ?_
  refine call_tuple_reprK (A := X.A.in1) e1 e2 e3 hn (by simpa using al) (g := []) (by simpa using hg) (fun b _ => Clear.nil b) (by show X.A.units + 1 + (2 * as.length + 1) < cLine; omega)
    (fun _ _ e => e) (fun h' u tk kp => ⟨_, _, rfl, ⟨.str (tupleText ts), H, I.kept (t' := tk) kp, ⟨_, rfl⟩, q⟩⟩) hz
/-- {t!r} -/
def tFmtT2 (K : PySem.W.Frag) (te : TE) : TE := fun σ H Q => te σ H fun x H1 => ∃ (p : Addr) (as : List Addr) (ys : List V) (ts : List Str), x = .ref p ∧ H1 p = some (.tup ys) ∧ Rp.SwL K H1 as ys ts ∧ p ∉ as ∧ as.length ≤ 30 ∧
  (tupleText ts).length ≤ sizeLine ∧ Q (.str (tupleText ts)) H1
theorem pe_fmtT2 {e : Expr} {te : TE} {pos : Pos} (hg : X.A.guards = some []) (hu : X.A.units + 200 < cLine) (he : PE X e te) : PE X (.FormattedValue e 114 none pos) (tFmtT2 X.K te) := by
  refine ⟨fun pins s σ H Q I h => ?_⟩
  refine wpAny_FormattedValue_repr (thn (he.run pins s σ H _ I h) fun v s1 hv => ?_)
  obtain ⟨x, H1, I1, r1, p, as, ys, ts, rfl, hp, l, hn, ha, hz, q⟩ := hv
  cases (show v = Value.ref p from r1)
  obtain ⟨_, its, rv, o, e1, e2, m, e3⟩ := (show ObjOk X.prog X.w H1 s1.heap p (.tup ys) from I1.hok p _ hp)
  have al := Rp.swl_repr I1.hok I1.kIn l rv (fun t ht => Nat.le_trans (tupleText_mem_le ht) hz)
  have fin : ∀ h' u tk, (∀ b o, s1.heap.get? b = some o → h'.get? b = some o) → wpAny (model X.prog X.w) X.A (formatField (.str (tupleText ts) u) Str.empty) (EP X pins σ Q) X.xe { s1 with heap := h', toks := tk } := fun h' u tk kp =>
    wpAny_formatField_str ⟨.str (tupleText ts), H1, I1.kept (t' := tk) kp, ⟨_, rfl⟩, q⟩ ⟨.str (tupleText ts), H1, I1.kept (t' := tk + 1) kp, ⟨_, rfl⟩, q⟩ hz
  unfold pyReprObj
  refine wpAny_bind (wpAny_cRoomFor (by omega) ?_)
  refine wpAny_bind (wpAny_specialOf (name := Str.ofString "__repr__") (T := "tuple") ⟨_, e1, e2⟩ F.slot_tuple_repr.lookup ?_)
  refine wpAny_bind (m := callSpecialIfBound? (.ref p) (Str.ofString "__repr__")) (wpAny_callSpecialIfBound?_slotG (name := Str.ofString "__repr__") (T := "tuple") ⟨_, e1, e2⟩ F.slot_tuple_repr ?_)
  refine call_tuple_reprK (A := X.A) e1 e2 e3 hn (by simpa using al) (g := []) hg (fun b _ => Clear.nil b) (by omega) (fun _ _ e => e) (fun h' u tk kp => ?_) hz
  exact wpAny_bind (wpAny_isInstance (T := "str") (b := true) rfl isSubtype_str_str (wpAny_pure (fin h' u tk kp)))
end
end Own

set_option Elab.async false
set_option linter.all false
set_option maxRecDepth 100000
set_option maxHeartbeats 4000000
namespace Own
open PySem L2 Lay PySem.Spec PyProof.Rows ClX
/-! ### x in t, t a tuple of data of any depth -/
def rInT (K : PySem.W.Frag) : R2 := fun x y H Q => ∃ d ds, Dp K H x d ∧ Dp K H y (.tuple ds) ∧ SeqAt.shaped d = true ∧ SeqAt.shaped (.tuple ds) = true ∧ Q (.bl (ds.any fun z => PyData.eqv z d)) H
theorem op_inT {X : Cx} (hu : X.A.units + 66 < cLine) : OpR X (compareOp .In) (rInT X.K) := by
  intro pins s σ H x y v u Q I rx ry h
  obtain ⟨d, ds, hd, he, sd, se, q⟩ := h
  obtain ⟨as, r1⟩ := Dp.reads I d x v hd rx
  obtain ⟨bs, r2⟩ := Dp.reads I (.tuple ds) y u he ry
  have l1 := SeqAt.canLay_of_shaped se
  exact SeqAt.in_tuple_reads r2 r1 l1 (SeqAt.canLay_of_shaped sd) (by
    have z : decide (d.depth ≤ 64) = true := (Bool.and_eq_true_iff.mp sd).2
    have := of_decide_eq_true z
    omega) ⟨.bl _, H, I, rfl, q⟩
/-! ### entries as data -/
def eD (e : Ent) : PyData := .tuple [.int e.1, .int e.2.1, .str e.2.2]
/-- a name whose text can be laid -/
def NmOk (e : Ent) : Prop := PyData.strOk e.2.2 = true
theorem eD_lay {e : Ent} (h : NmOk e) : (eD e).canLay0 = true := by
  have h : PyData.strOk e.2.2 = true := h
  simp [eD, PyData.canLay0, PyData.canLayAll0, h]
theorem eD_dep (e : Ent) : (eD e).depth ≤ 1 := by simp [eD, PyData.depth, PyData.depthAll]
theorem eD_sh {e : Ent} (n : NmOk e) : SeqAt.shaped (eD e) = true := by
  have h := eD_dep e
  show ((eD e).canLay0 && decide ((eD e).depth ≤ 64)) = true
  rw [eD_lay n, decide_eq_true (by omega)]; rfl
theorem eDs_lay : ∀ es : List Ent, (∀ e ∈ es, NmOk e) → PyData.canLayAll0 (es.map eD) = true
  | [], _ => by simp [PyData.canLayAll0]
  | e :: es, h => by simp [PyData.canLayAll0, eD_lay (h e (List.mem_cons_self ..)), eDs_lay es fun f hf => h f (List.mem_cons_of_mem _ hf)]
theorem eDs_dep : ∀ es : List Ent, PyData.depthAll (es.map eD) ≤ 1
  | [] => by simp [PyData.depthAll]
  | e :: es => by
    have h1 := eDs_dep es
    have h2 := eD_dep e
    simp only [List.map_cons, PyData.depthAll]
    omega
theorem eDs_sh {es : List Ent} (n : ∀ e ∈ es, NmOk e) : SeqAt.shaped (.tuple (es.map eD)) = true := by
  have h := eDs_dep es
  show (PyData.canLay0 (.tuple (es.map eD)) && decide (PyData.depth (.tuple (es.map eD)) ≤ 64)) = true
  rw [Bool.and_eq_true]
  exact ⟨by simp only [PyData.canLay0]; exact eDs_lay es n, decide_eq_true (by simp only [PyData.depth]; omega)⟩
theorem eDs_shL {es : List Ent} (n : ∀ e ∈ es, NmOk e) : SeqAt.shaped (.list (es.map eD)) = true := by
  have h := eDs_dep es
  show (PyData.canLay0 (.list (es.map eD)) && decide (PyData.depth (.list (es.map eD)) ≤ 64)) = true
  rw [Bool.and_eq_true]
  exact ⟨by simp only [PyData.canLay0]; exact eDs_lay es n, decide_eq_true (by simp only [PyData.depth]; omega)⟩
theorem eD_eqv (e f : Ent) : PyData.eqv (eD e) (eD f) = decide (e = f) := by
  obtain ⟨a, b, c⟩ := e
  obtain ⟨a', b', c'⟩ := f
  have z : PyData.eqv (eD (a, b, c)) (eD (a', b', c')) = ((a == a') && ((b == b') && ((c == c') && true))) := by simp only [eD, PyData.eqv, PyData.eqvAll]
  rw [z]
  by_cases h : ((a, b, c) : Ent) = (a', b', c')
  · cases h; simp
  · rw [decide_eq_false h, Bool.eq_false_iff]
    intro q
    apply h
    simp at q
    obtain ⟨q1, q2, q3⟩ := q
    rw [q1, q2, q3]
theorem any_eD (es : List Ent) (e : Ent) : ((es.map eD).any fun z => PyData.eqv z (eD e)) = decide (e ∈ es) := by
  induction es with
  | nil => rfl
  | cons f es ih =>
    rw [List.map_cons, List.any_cons, ih, eD_eqv]
    by_cases h : f = e
    · subst h; simp
    · have h' : ¬ e = f := fun z => h z.symm
      simp [h, h']
theorem eqv_eDs (es fs : List Ent) : PyData.eqvAll (es.map eD) (fs.map eD) = decide (es = fs) := by
  induction es generalizing fs with
  | nil => cases fs <;> simp [PyData.eqvAll]
  | cons e es ih =>
    cases fs with
    | nil => simp [PyData.eqvAll]
    | cons f fs =>
      rw [List.map_cons, List.map_cons, PyData.eqvAll, eD_eqv, ih]
      by_cases h : e = f <;> by_cases g : es = fs <;> simp [h, g]
theorem eqvT (es fs : List Ent) : PyData.eqv (.tuple (es.map eD)) (.tuple (fs.map eD)) = decide (es = fs) := by rw [PyData.eqv]; exact eqv_eDs es fs
theorem eqvL (es fs : List Ent) : PyData.eqv (.list (es.map eD)) (.list (fs.map eD)) = decide (es = fs) := by rw [PyData.eqv]; exact eqv_eDs es fs
section
variable {K : PySem.W.Frag} {H : Hp} {x : V} {e : Ent} {xs : List V} {es : List Ent}
theorem EntT.dp (h : EntT H x e) : Dp K H x (eD e) := by
  obtain ⟨t, rfl, h⟩ := h
  exact .tup (SqT.of h) (.cons (.int _) (.cons (.int _) (.cons (.str _) .nil)))
theorem EL.dp (h : EL H xs es) : DpAll K H xs (es.map eD) := by
  induction h with
  | nil => exact .nil
  | cons h _ ih => exact .cons h.dp ih
end
/-! ### enumerate(t), t a tuple -/
def IteT (K : PySem.W.Frag) (a : Addr) : It :=
  ⟨fun i H => ∃ (xs : List V) (x : V), SqT K H a xs ∧ xs[i]? = some x, fun i H v H' => ∃ T x, v = .ref T ∧ H T = none ∧ H' = upd H T (.tup [.int (i : Nat), x]) ∧ ∀ xs, SqT K H a xs → xs[i]? = some x, fun i H => ∃ xs : List V, SqT K H a xs ∧ xs.length = i⟩
theorem walk_enumT {K : PySem.W.Frag} {a : Addr} {xs : List V} : Walk (IteT K a) xs.length (fun H => SqT K H a xs) (YPair (fun i => some (.int (i : Nat))) (fun i => xs[i]?)) := by
  refine ⟨fun i _ hi q => ⟨xs, xs[i], q, by simp [hi]⟩, fun _ q => ⟨xs, q, rfl⟩, fun i H v H' _ q y => ?_⟩
  obtain ⟨T, x, h1, h2, h3, h4⟩ := y
  exact ⟨T, .int (i : Nat), x, h1, h2, h3, rfl, h4 xs q⟩
end Own

set_option Elab.async false
set_option linter.all false
set_option maxRecDepth 100000
set_option maxHeartbeats 4000000
namespace Own
open PySem L2 Lay PySem.Spec PyProof.Rows ClX
/-! ### enumerate(t) -/
theorem new_enum1 {v : Value} {o : Obj} {G : Heap → Prop} (B : Begins v o G) :
    Meets (Builtin.«enumerate.__new__» ⟨[.type "enumerate", v], []⟩) (fun _ R s => G s.heap ∧
      R (.ok (.ret (.ref (s.heap.push o).objs.size))) { s with heap := (s.heap.push o).push { cls := .type "enumerate", data := .fields #[.none, .bool false, .ref s.heap.objs.size, rawInt 0, .none, .none] } }) :=
  .of_wp fun prog w A R s h => by
    obtain ⟨hp, g, d, tk, os⟩ := s
    obtain ⟨h1, h⟩ := h
    have hsub := sub_enumerate
    have it : ∀ {A' : Around} {E : Value → Shared → Prop} {Q : Value → Shared → Prop}, Q (.ref hp.objs.size) ⟨hp.push o, g, d, tk, os⟩ → wpAny (model prog w) A' (pyIter v) Q E ⟨hp, g, d, tk, os⟩ := fun q => B.iter prog w _ _ ⟨hp, g, d, tk, os⟩ _ h1 q
    wp_walk using it
    refine wpAny_stack_any fun st => wpAny_pure ?_
    split
    · rename_i c _ _ _ _ _
      cases (c == Value.type "enumerate") <;> (wp_walk using it; exact ⟨_, rfl, h⟩)
    · wp_walk using it
      exact ⟨_, rfl, h⟩
theorem call_enum1 {prog : Program} {w : World} {A : Around} {E : Value → Shared → Prop} {s : Shared} {v : Value} {o : Obj} {G : Heap → Prop} {Q : Value → Shared → Prop} (B : Begins v o G) (g : G s.heap)
    (h : ∀ h', IsEnum h' (s.heap.objs.size + 1) s.heap.objs.size 0 .none → h'.get? s.heap.objs.size = some o → (∀ b u, s.heap.get? b = some u → h'.get? b = some u) → Q (.ref (s.heap.objs.size + 1)) { s with heap := h' }) :
    wpAny (model prog w) A (call (.type "enumerate") [v]) Q E s := by
  refine callType_new F.called_enumerate (by decide) (F.typeCall_enumerate_1 _) (F.newCall_enumerate_1 _) (fun obj => F.args_object_init_2 obj _) F.entry_enumerate_new (new_enum1 B) ⟨g, ?_⟩
  have sz : (s.heap.push o).objs.size = s.heap.objs.size + 1 := Heap.size_push ..
  have e : IsEnum ((s.heap.push o).push { cls := .type "enumerate", data := .fields #[.none, .bool false, .ref s.heap.objs.size, rawInt 0, .none, .none] }) (s.heap.objs.size + 1) s.heap.objs.size 0 .none := by
    rw [← sz]
    exact Heap.get?_push_size _ rfl
  show _ ∧ _
  rw [sz]
  exact ⟨⟨_, e, rfl⟩, h _ e (Heap.get?_push_of_some _ (Heap.get?_push_size _ B.free)) fun b u q => Heap.get?_push_of_some _ (Heap.get?_push_of_some _ q)⟩
theorem turn_enumT {P : Program} {w : World} {K : PySem.W.Frag} {elts : List Expr} {kk : Nat} {tpos : Pos} (a e it : Addr) :
    Turn P w K (.Tuple elts kk tpos) (IteT K a) [e, it] e (fun i h => (∃ old, IsEnum h e it ((i : Nat) : Int) old) ∧ h.IsTupleIter it a i ∧ e ≠ it) where
  mem := by simp
  obj := fun i h st b hb => by
    obtain ⟨⟨old, he⟩, ⟨o, ho, hc, hd⟩, _⟩ := st
    rcases List.mem_cons.mp hb with z | z
    · subst z; exact ⟨_, he, fun v q => nomatch q⟩
    · obtain rfl := List.mem_singleton.mp z
      exact ⟨o, ho, fun v q => by rw [hd] at q; cases q⟩
  keep := fun i h h' st k => by
    obtain ⟨⟨old, he⟩, hi, ne⟩ := st
    exact ⟨⟨old, k e (by simp) _ he⟩, hi.at fun o q => k it (by simp) o q, ne⟩
  item := by
    intro X hP hw hK hc i pins s σ H E I hf st hg
    subst hP hw hK
    obtain ⟨⟨old, he⟩, hit, ne⟩ := st
    obtain ⟨xs, x, hq, hx⟩ := hg
    obtain ⟨its, rv, p, hz⟩ := I.tuple hq
    obtain ⟨u, hu, ru⟩ := rv.get hx
    have hel : e < s.heap.objs.size := Heap.lt_size he
    have hil : it < s.heap.objs.size := by obtain ⟨_, q, _⟩ := hit; exact Heap.lt_size q
    have eL : e ≠ a := fun z => by
      obtain ⟨o, ho, hcl, _⟩ := p
      subst z
      rw [show s.heap.get? e = some _ from he] at ho
      cases ho
      exact absurd (Value.type.inj hcl) (by decide)
    have iL : a ≠ it := fun z => by
      obtain ⟨o, ho, hcl, _⟩ := p
      obtain ⟨o', ho', hcl', _⟩ := hit
      subst z
      rw [ho] at ho'
      cases ho'
      rw [hcl] at hcl'
      exact absurd (Value.type.inj hcl') (by decide)
    have D := PySem.Draws.tuple (prog := X.prog) (w := X.w) (A := X.A.in1) (by simpa using I.ok.hd hc) it a iL its.toArray
    have hlt : i < its.toArray.size := by
      have := (List.getElem?_eq_some_iff.mp hu).1
      simpa using this
    refine wpAny_pyNext_enum_itemD D he ⟨hit, p⟩ hlt ne (by simp [ne, eL]) fun y h' tk py ho hst hT hsz hk => ?_
    have ey : y = u := by
      have q : its.toArray[i]? = some y := py
      rw [show its.toArray[i]? = its[i]? by simp, hu] at q
      exact (Option.some.inj q).symm
    subst ey
    refine ⟨_, rfl, wpAny_letOwnedTupleGo_enum (s := { s with heap := h', toks := tk + 1 }) ho fun h'' he' sb => ?_⟩
    have hT2 : h''.get? s.heap.objs.size = some { cls := .type "tuple", data := .seq #[.int i tk, y] } := (sb.2 _ (Nat.ne_of_gt hel)).trans hT
    have new : ObjOk X.prog X.w (upd H s.heap.objs.size (.tup [.int (i : Nat), x])) h'' s.heap.objs.size (.tup [.int (i : Nat), x]) :=
      ⟨by show 2 ≤ sizeLine; decide, [.int i tk, y], .cons ⟨_, rfl⟩ (.cons ru .nil), ⟨_, hT2, rfl, _, rfl⟩⟩
    have I1 : Inv X pins σ (upd H s.heap.objs.size (.tup [.int (i : Nat), x])) { s with heap := h'', toks := tk + 1 } :=
      I.turnedNew (ch := [e, it]) (fun b ob hb q => (sb.2 b (fun z => hb (by simp [z]))).trans (hk b ob (fun z => hb (by simp [z])) (fun z => hb (by simp [z])) q)) hf (Nat.le_refl _) new
    refine ⟨.ref s.heap.objs.size, _, I1, rfl, ⟨_, x, rfl, I.hok.fresh (Nat.le_refl _), rfl, fun ys hy => ?_⟩, ⟨⟨y, ?_⟩, hst.1.at fun o q => (sb.2 it (Ne.symm ne)).trans q, ne⟩, fun b hb => ?_⟩
    · rw [I.tuple_inj hy hq]; exact hx
    · have e1 : ((i + 1 : Nat) : Int) = (i : Int) + 1 := by omega
      rw [e1]; exact he'
    · have hb' : b < s.heap.objs.size := by
        rcases List.mem_cons.mp hb with z | z
        · rw [z]; exact hel
        · rw [List.mem_singleton.mp z]; exact hil
      rw [upd_ne (Nat.ne_of_lt hb')]
      exact (hf b hb).1
  done := by
    intro X hP hw hK hc i pins s σ H E I hf st hg
    subst hP hw hK
    obtain ⟨⟨old, he⟩, hit, ne⟩ := st
    obtain ⟨xs, hq, hx⟩ := hg
    obtain ⟨its, rv, p, hz⟩ := I.tuple hq
    obtain ⟨f0, f1, f2, f3, f4, f5⟩ := hf it (by simp)
    have iL : a ≠ it := fun z => by
      obtain ⟨o, ho, hcl, _⟩ := p
      obtain ⟨o', ho', hcl', _⟩ := hit
      subst z
      rw [ho] at ho'
      cases ho'
      rw [hcl] at hcl'
      exact absurd (Value.type.inj hcl') (by decide)
    have ei : its.toArray.size = i := by rw [List.size_toArray, ← rv.length]; exact hx
    subst ei
    have D := PySem.Draws.tuple (prog := X.prog) (w := X.w) (A := X.A.in1) (by simpa using I.ok.hd hc) it a iL its.toArray
    exact wpAny_pyNext_enum_endD D he ⟨hit, p⟩ fun h' eb => ⟨rfl, I.turned (t' := s.toks) (fun b o hb q => eb b o hb q) f0 f1 f3 f4 f5⟩
  self := fun A i s Q E st h => by
    obtain ⟨⟨_, he⟩, _⟩ := st
    exact wpAny_pyIter_enum he h
def iEnumT (K : PySem.W.Frag) (ta : TA) : TI := fun σ H R => ta σ H fun vs H1 => ∃ a xs, vs = [.ref a] ∧ SqT K H1 a xs ∧ R (IteT K a) H1
theorem pi_enumT {X : Cx} {e : Expr} {ta : TA} {p pos tpos : Pos} {elts : List Expr} {kk : Nat} (hg : Gl X "enumerate") (hm : X.mg "enumerate" = none) (ha : PA X [e] ta) (hs : starEach [e] X.env = [(false, eval e X.env)] := by rfl) :
    PI X (.Tuple elts kk tpos) (.Call (.Name "enumerate" p) [e] [] pos) (iEnumT X.K ta) := by
  refine ⟨fun pins s σ H R I h => ?_⟩
  refine Call_ (ld_blt I hg hm boot_enumerate (PyProof.Rows.callWith_type1 (thn (ha.run pos pins s σ H _ I h) fun us s1 ⟨vs, H1, I1, r1, a, xs, ex, hq, q⟩ => ?_) hs rfl))
  subst ex
  obtain ⟨u, rfl, ru⟩ := vals1 r1
  obtain rfl : u = Value.ref a := ru
  obtain ⟨its, rv, p', hz⟩ := I1.tuple hq
  refine call_enum1 (begins_tuple a its.toArray) p' fun h' he hit hk => wpAny_pyIter_enum he ?_
  have I2 : Inv X pins σ H1 { s1 with heap := h' } := I1.kept (t' := s1.toks) hk
  refine ⟨s1.heap.objs.size + 1, [s1.heap.objs.size + 1, s1.heap.objs.size], _, _, H1, rfl, I2, turn_enumT a (s1.heap.objs.size + 1) s1.heap.objs.size, ⟨⟨.none, he⟩, ⟨_, hit, rfl, rfl⟩, Nat.succ_ne_self _⟩, fun b hb => ?_, q⟩
  have hle : s1.heap.objs.size ≤ b := by
    rcases List.mem_cons.mp hb with z | z
    · rw [z]; exact Nat.le_succ _
    · rw [List.mem_singleton.mp z]; exact Nat.le_refl _
  exact I1.fpOk hle (I1.hok.fresh hle)
end Own

set_option Elab.async false
set_option linter.all false
set_option maxRecDepth 100000
set_option maxHeartbeats 4000000
namespace Rx
open PySem L2 Lay Own PySem.Spec PyProof.Rows
/-! ### defs that may raise, no text of an object being made -/
abbrev FnGX (P : Program) (w : World) (K : PySem.W.Frag) (mg : Str → Option Value) (base : Heap) (k : Nat) (f : Addr) (fd : FuncData) (ps : List Str) (sp : Sp) : Prop :=
  FnG P w K mg base (L2.CX P w) k f fd ps sp
/-- .. called with values by place -/
def FnPX (P : Program) (w : World) (K : PySem.W.Frag) (mg : Str → Option Value) (base : Heap) (k : Nat) (g : Addr) (sp : Sp) : Prop :=
  ∀ (A : Around) (outer : List Env) (s : Shared) (H : Hp) (us : List Value) (vs : List V) (Q : VK) (E : XK), Room k A → A.guards = some [] → Env0 P w K mg base A outer s H → Vals vs us →
    sp vs H Q E → codeAny (model P w) A (.call (.ref g) ⟨us, []⟩) (CR (L2.CX P w) outer P w H s Q E) s
def DfX (P : Program) (w : World) (K : PySem.W.Frag) (mg : Str → Option Value) (base : Heap) (k : Nat) (x : Str) (ps : List Str) (sp : Sp) : Prop :=
  ∃ f fd, FnGX P w K mg base k f fd ps sp ∧ mg x = some (.ref f) ∧ PySem.W.keepIn K (.ref f) = true ∧ Binds K fd ps [] ∧ Kw1 fd ps
section
variable {P : Program} {w : World} {K : PySem.W.Frag} {mg : Str → Option Value} {base : Heap} {x qual : Str} {st : Stmt} {f : Addr} {fd : FuncData} {N ps : List Str} {j k : Nat} {sp sp' : Sp} {g : Addr}
theorem okGX (F : Fun K x qual st f fd) (S : FnScope N ps (defScope st)) (len : ∀ vs H Q E, sp vs H Q E → vs.length = ps.length)
    (hbody : ∀ (cdv : Value) (A : Around) (outer : List Env) (s : Shared) (H : Hp) (vs : List V) (Q : VK) (E : XK), Room k (A.deeper (envOfC qual (defScope st) s.heap.objs.size f cdv)) → A.guards = some [] →
      sp vs H Q E → ∃ t, PSs (cxOf (L2.CX P w) P w K mg base N qual (defScope st) f cdv A outer s H E) (defBody st) t ∧ t { nx := fun _ H' => Q .non H', rt := Q } (start N vs) H) :
    FnGX P w K mg base (k + 1) f fd ps sp := by
  obtain ⟨oc, od, kV, doc, pm, an, cdv, ct, osl, rfl, lk, hcd⟩ := F.ex
  exact fnG_of lk hcd S len fun A outer s H vs Q E hr hg hsp => hbody cdv A outer s H vs Q E hr hg hsp
theorem srcX (S : Src K mg x st ps) (sc : FnScope N ps (defScope st)) (len : ∀ vs H Q E, sp vs H Q E → vs.length = ps.length)
    (hbody : ∀ (f : Addr) (cdv : Value) (A : Around) (outer : List Env) (s : Shared) (H : Hp) (vs : List V) (Q : VK) (E : XK), Room k (A.deeper (envOfC x (defScope st) s.heap.objs.size f cdv)) → A.guards = some [] →
      sp vs H Q E → ∃ t, PSs (cxOf (L2.CX P w) P w K mg base N x (defScope st) f cdv A outer s H E) (defBody st) t ∧ t { nx := fun _ H' => Q .non H', rt := Q } (start N vs) H) :
    DfX P w K mg base (k + 1) x ps sp := by
  obtain ⟨f, fd, F, g, b⟩ := S
  exact ⟨f, fd, okGX F sc len (hbody f), g, F.kp, b⟩
theorem FnPX.ofG (F : FnGX P w K mg base k g fd ps sp) (b : Binds K fd ps []) : FnPX P w K mg base k g sp := by
  intro A outer s H us vs Q E hr hg e0 r h
  have hl : us.length = ps.length := by rw [← r.length]; exact F.len _ _ _ _ h
  have b1 := b s us (e0.mod.kin.keeps fun b o e => (e0.bs b o e).1) (by rw [List.append_nil]; exact hl)
  rw [List.append_nil] at b1
  exact F.run A outer s H ⟨us, []⟩ us vs Q E hr hg e0 b1 r h
theorem FnPX.mono (F : FnPX P w K mg base j g sp) (h : j ≤ k) : FnPX P w K mg base k g sp := fun A outer s H us vs Q E hr => F A outer s H us vs Q E (hr.mono h)
/-- around a def's body: its wish -/
theorem takesD {cdv : Value} {A : Around} {outer : List Env} {s : Shared} {H : Hp} {E : XK} {sc : Scope} : Takes (cxOf (L2.CX P w) P w K mg base N qual sc f cdv A outer s H E) (fun cls d _ H' => E cls d H') :=
  takes_of rfl rfl rfl rfl
theorem leaveD {cdv : Value} {A : Around} {outer : List Env} {s : Shared} {H : Hp} {E : XK} {sc : Scope} :
    PassesOwn (model P w) (cxOf (L2.CX P w) P w K mg base N qual sc f cdv A outer s H E).A (cxOf (L2.CX P w) P w K mg base N qual sc f cdv A outer s H E).env (cxOf (L2.CX P w) P w K mg base N qual sc f cdv A outer s H E).xe := PassesOwn.leaving
end
/-! ### calls of them -/
/-- what a context wishes of an exception, at these slots -/
def wAt (W : WX) (σ : L2.St) : XK := fun cls d H => W cls d σ H
def tGX (W : WX) (sp : Sp) (t : TA) : TE := fun σ H Q => t σ H fun vs H1 => sp vs H1 Q (wAt W σ)
section
variable {X : Cx} {W : WX} {k : Nat} {f g C : Addr} {fd : FuncData} {ps : List Str} {sp : Sp} {pins : List (Addr × Obj)} {σ : L2.St} {H : Hp} {s : Shared} {Q : VK} {us : List Value} {vs : List V}
theorem back_X (tk : Takes X W) (I : Inv X pins σ H s) {r : Result} {s' : Shared} (hq : CR (L2.CX X.prog X.w) X.stack X.prog X.w H s Q (wAt W σ) r s') :
    (match (generalizing := false) r with | .ok (.ret v) => EP X pins σ Q v s' | .ok _ => False | .error x => X.xe x s') := by
  cases r with
  | error e => exact tk e s' (XE.of_call I (fun _ _ _ z => z) hq)
  | ok fl =>
    cases fl with
    | ret u => exact I.after hq
    | next => exact False.elim hq
    | brk => exact False.elim hq
    | cont => exact False.elim hq
theorem run_GX {args : Args} (tk : Takes X W) (F : FnGX X.prog X.w X.K X.mg X.base k f fd ps sp) (hr : Room k X.A) (hg : X.A.guards = some []) (I : Inv X pins σ H s)
    (hb : BindsTo s fd args (ps.zip us)) (r : Vals vs us) (h : sp vs H Q (wAt W σ)) :
    codeAny (model X.prog X.w) X.A (.call (.ref f) args) (fun r s' => match r with | .ok (.ret v) => EP X pins σ Q v s' | .ok _ => False | .error x => X.xe x s') s :=
  codeAny_mono (F.run X.A X.stack s H args us vs Q _ hr hg I.env0 hb r h) fun _ _ hq => back_X tk I hq
theorem run_PX {A : Around} (tk : Takes X W) (F : FnPX X.prog X.w X.K X.mg X.base k g sp) (hr : Room k A) (hg : A.guards = some []) (e0 : Env0 X.prog X.w X.K X.mg X.base A X.stack s H) (I : Inv X pins σ H s) (r : Vals vs us) (h : sp vs H Q (wAt W σ)) :
    codeAny (model X.prog X.w) A (.call (.ref g) ⟨us, []⟩) (fun r s' => match r with | .ok (.ret v) => EP X pins σ Q v s' | .ok _ => False | .error x => X.xe x s') s :=
  codeAny_mono (F A X.stack s H us vs Q _ hr hg e0 r h) fun _ _ hq => back_X tk I hq
end
section
variable {X : Cx} {W : WX} {x nm m : Str} {ps : List Str} {sp : Sp} {k : Nat} {f g C p0 : Addr} {mc : Value} {o e : Expr} {es : List Expr} {t : TA} {te ta : TE} {p pos kpos apos sp_ p1 : Pos} {pl : Sem Bool}
/-- f(e, ..) -/
theorem pe_ownX (tk : Takes X W) (D : DfX X.prog X.w X.K X.mg X.base k x ps sp) (hr : Room k X.A) (hgd : X.A.guards = some []) (ht : PA X (e :: es) t) (hg : Gl X x := by rfl) (hdb : (x == ("__debug__" : Str)) = false := by decide)
    (hs : starEach (e :: es) X.env = (false, eval e X.env) :: starEach es X.env := by rfl) (hpl : (backTo pos (starEach es X.env)).any (·.1) = false := by rfl) :
    PE X (.Call (.Name x p) (e :: es) [] pos) (tGX W sp t) := by
  obtain ⟨f, fd, F, g, kp, b, _⟩ := D
  refine ⟨fun pins s σ H Q I h => wpAny_Call_Name_kw (ld_glob I hg g ?_ hdb)⟩
  refine PySem.W.callWith_K (h₀ := X.base) I.ok.mod.kin kp (thn (ht.run pos pins s σ H _ I h) fun us s1 ⟨vs, H1, I1, r, q⟩ => ⟨I1.kIn, ?_⟩) hs hpl
  have b1 := b s1 us I1.kIn (by rw [List.append_nil, ← r.length]; exact F.len _ _ _ _ q)
  rw [List.append_nil] at b1
  exact wpAny_call (run_GX tk F hr hgd I1 b1 r q)
/-! making -/
def tMakeX (W : WX) (C : Addr) (sp : Sp) (t : TA) : TE := fun σ H Q => t σ H fun vs H1 => ∀ x dx, H1 x = Option.none → H1 dx = Option.none → dx ≠ x →
  sp (V.ref x :: vs) (upd (upd H1 dx (.own x)) x (.ins C dx [])) (fun v H2 => v = .non ∧ Q (.ref x) H2) (wAt W σ)
theorem run_makeX {pins : List (Addr × Obj)} {σ : L2.St} {H : Hp} {s : Shared} {Q : VK} {us : List Value} {vs : List V} (tk : Takes X W) (M : Mk X.K C f) (F : FnPX X.prog X.w X.K X.mg X.base k f sp) (hr : Room (k + 1) X.A) (hg : X.A.guards = some []) (I : Inv X pins σ H s) (r : Vals vs us)
    (h : ∀ x dx, H x = Option.none → H dx = Option.none → dx ≠ x → sp (V.ref x :: vs) (upd (upd H dx (.own x)) x (.ins C dx [])) (fun v H2 => v = .non ∧ Q (.ref x) H2) (wAt W σ)) :
    wpAny (model X.prog X.w) X.A (call (.ref C) us) (EP X pins σ Q) X.xe s := by
  have hq := h (s.heap.objs.size + 1) s.heap.objs.size (I.hok.fresh (Nat.le_succ _)) (I.hok.fresh (Nat.le_refl _)) (Nat.ne_of_lt (Nat.lt_succ_self _))
  have I2 := Inv.made (C := C) I
  have r2 : Vals (V.ref (s.heap.objs.size + 1) :: vs) (Value.ref (s.heap.objs.size + 1) :: us) := .cons rfl r
  have run := F _ X.stack _ _ _ _ _ _ (hr.make C us []) (g_under hg) (I2.env0.make C us []) r2 hq
  refine wpAny_call (make_map (f := f) I.kIn M.makes M.init (beq_iff_eq.mp M.fn) (codeAny_mono run fun r s' hq' => ?_))
  cases r with
  | error e => exact tk e s' (XE.of_call I2 (fun _ _ _ z => z) hq')
  | ok fl =>
    cases fl with
    | ret u =>
      obtain ⟨v, H', I3, rv, ev, q3⟩ := I2.after hq'
      subst ev
      exact ⟨rv, ⟨V.ref (s.heap.objs.size + 1), H', I3, rfl, q3⟩⟩
    | next => exact False.elim hq'
    | brk => exact False.elim hq'
    | cont => exact False.elim hq'
/-- C(e, ..) -/
theorem pe_makeX (tk : Takes X W) (M : Mk X.K C f) (F : FnPX X.prog X.w X.K X.mg X.base k f sp) (hr : Room (k + 1) X.A) (hgd : X.A.guards = some []) (hm : X.mg x = some (.ref C)) (ha : PA X (e :: es) t) (hg : Gl X x := by rfl) (hdb : (x == ("__debug__" : Str)) = false := by decide)
    (he : starEach (e :: es) X.env = (false, eval e X.env) :: starEach es X.env := by rfl) (hpl : (backTo pos (starEach es X.env)).any (·.1) = false := by rfl) : PE X (.Call (.Name x p1) (e :: es) [] pos) (tMakeX W C sp t) := by
  refine ⟨fun pins s σ H Q I h => wpAny_Call_Name_kw (ld_glob I hg hm ?_ hdb)⟩
  refine PySem.W.callWith_K (h₀ := X.base) I.ok.mod.kin M.kp (thn (ha.run pos pins s σ H _ I h) fun us s1 ⟨vs, H1, I1, r, q⟩ => ⟨I1.kIn, ?_⟩) he hpl
  exact run_makeX tk M F hr hgd I1 r q
/-- C() -/
theorem pe_makeX0 (tk : Takes X W) (M : Mk X.K C f) (F : FnPX X.prog X.w X.K X.mg X.base k f sp) (hr : Room (k + 1) X.A) (hgd : X.A.guards = some []) (hm : X.mg x = some (.ref C)) (hg : Gl X x := by rfl) (hdb : (x == ("__debug__" : Str)) = false := by decide) :
    PE X (.Call (.Name x p1) [] [] pos) (tMakeX W C sp tNil) := by
  refine ⟨fun pins s σ H Q I h => wpAny_Call_Name_kw (ld_glob I hg hm ?_ hdb)⟩
  exact PySem.W.callWith_K0 I.kIn M.kp (run_makeX tk M F hr hgd I .nil h)
/-- C(*e) -/
theorem pe_makeSX (tk : Takes X W) (M : Mk X.K C f) (F : FnPX X.prog X.w X.K X.mg X.base k f sp) (hr : Room (k + 1) X.A) (hgd : X.A.guards = some []) (hm : X.mg x = some (.ref C)) (he : PE X e te) (hg : Gl X x := by rfl) (hdb : (x == ("__debug__" : Str)) = false := by decide)
    (hst : starEach [.Starred e sp_] X.env = [(true, eval e X.env)] := by rfl) : PE X (.Call (.Name x p1) [.Starred e sp_] [] pos) (tMakeX W C sp (tStar1 X.K te)) := by
  refine ⟨fun pins s σ H Q I h => wpAny_Call_Name_kw (ld_glob I hg hm ?_ hdb)⟩
  refine PySem.W.callWith_S (h₀ := X.base) I.ok.mod.kin M.kp (thn (he.run pins s σ H _ I h) fun v s1 ⟨y, H1, I1, ry, a, xs, ey, hxs, q⟩ => ?_) hst
  subst ey
  cases (show v = Value.ref a from ry)
  exact StX.star_any I1 hxs fun us s2 I2 rv => ⟨I2.kIn, run_makeX tk M F hr hgd I2 rv q⟩
/-! static methods -/
def tStaX (W : WX) (C : Addr) (sp : Sp) (te : TE) (t : TA) : TE := fun σ H Q => te σ H fun x H1 => x = .ref C ∧ t σ H1 fun vs H2 => sp vs H2 Q (wAt W σ)
theorem pe_staX (tk : Takes X W) (he : PE X o te) (r : ClX.CRead X.K C mc) (c : CSta X.K C mc m p0 g) (F : FnPX X.prog X.w X.K X.mg X.base k g sp) (hr : Room k X.A) (hgd : X.A.guards = some []) (ha : PA X (e :: es) t)
    (hst : starEach (e :: es) X.env = (false, eval e X.env) :: starEach es X.env := by rfl) (hpl : (backTo pos (starEach es X.env)).any (·.1) = false := by rfl)
    (ht : eval (.Call (.Attribute o m apos) (e :: es) [] pos) X.env = (do
      let ov ← eval o X.env
      standAt apos.atName
      let (f, first) ← holding [ov] (getMethod ov m pl)
      callWith pos f first (backTo pos (starEach (e :: es) X.env)) (backToKw pos (keywordEach [] X.env))) := by rfl) :
    PE X (.Call (.Attribute o m apos) (e :: es) [] pos) (tStaX W C sp te t) := by
  refine ⟨fun pins s σ H Q I h => ?_⟩
  refine PySem.W.methodCall_KW (pl := pl) (thn (he.run pins s σ H _ I h) fun u s1 ⟨x, H1, I1, rx, ex, q⟩ => ?_) ht
  subst ex
  cases (show u = Value.ref C from rx)
  refine getmethst_ok I1 r c fun s2 I2 => ?_
  refine PySem.W.callWith_K (first := []) (h₀ := X.base) I2.ok.mod.kin c.kp (thn (ha.run pos pins s2 σ H1 _ I2 q) fun us s3 ⟨vs, H2, I3, rv, q2⟩ => ⟨I3.kIn, ?_⟩) hst hpl
  exact wpAny_call (run_PX tk F hr hgd I3.env0 I3 rv q2)
theorem pe_staKX {fd : FuncData} {q : Str} {kws : List Keyword} {tkw : TA} (tk : Takes X W) (he : PE X o te) (r : ClX.CRead X.K C mc) (c : CSta X.K C mc m p0 g) (F : FnGX X.prog X.w X.K X.mg X.base k g fd [q] sp) (b : Kw1 fd [q]) (hr : Room k X.A) (hgd : X.A.guards = some [])
    (hkw : PK X kws tkw) (hall : (backToKw pos (keywordEach kws X.env)).all (·.1.isSome) = true := by rfl) (hks : (backToKw pos (keywordEach kws X.env)).filterMap (·.1) = [q] := by rfl)
    (hpl : ((backTo pos (starEach [] X.env)).any (·.1) || (backToKw pos (keywordEach kws X.env)).any (·.1.isNone)) = false := by rfl)
    (ht : eval (.Call (.Attribute o m apos) [] kws pos) X.env = (do
      let ov ← eval o X.env
      standAt apos.atName
      let (f, first) ← holding [ov] (getMethod ov m pl)
      callWith pos f first (backTo pos (starEach [] X.env)) (backToKw pos (keywordEach kws X.env))) := by rfl) :
    PE X (.Call (.Attribute o m apos) [] kws pos) (tStaX W C sp te tkw) := by
  refine ⟨fun pins s σ H Q I h => ?_⟩
  refine PySem.W.methodCall_KW (pl := pl) (thn (he.run pins s σ H _ I h) fun u s1 ⟨x, H1, I1, rx, ex, q⟩ => ?_) ht
  subst ex
  cases (show u = Value.ref C from rx)
  refine getmethst_ok I1 r c fun s2 I2 => ?_
  refine PySem.W.callWith_KW0 (h₀ := X.base) I2.ok.mod.kin c.kp hall ?_ hpl
  refine thn (hkw.run pos pins s2 σ H1 _ I2 q) fun ws s3 ⟨zs, H2, I3, rz, q2⟩ => ⟨I3.kIn, ?_⟩
  rw [hks]
  have hl : zs.length = 1 := F.len _ _ _ _ q2
  cases rz with
  | nil => cases hl
  | @cons z u zr ur h1 more =>
    cases more with
    | cons _ _ => cases hl
    | nil =>
      have b1 : BindsTo s3 fd ⟨[], [(_, u)]⟩ ([_].zip [u]) := .of_eq (b _ u rfl)
      exact wpAny_call (run_GX tk F hr hgd I3 (us := [u]) (vs := [z]) b1 (.cons h1 .nil) q2)
end
end Rx

set_option Elab.async false
set_option linter.all false
set_option maxRecDepth 100000
set_option maxHeartbeats 4000000
namespace Rx
open PySem L2 Lay Own PySem.Spec PyProof.Rows Exv
/-! ### an own error made and raised -/
section
variable {X : Cx} {x : Str} {C : Addr} {B newId initId : String} {bmB : List Value} {ps : List Str} {n : Nat} {mk : List V → List (Str × V)} {e : Expr} {es : List Expr} {t : TA} {p pos : Pos} {W : WX}
/-- C(..), to be raised: its dict tells the fields -/
def tMkR (H0 : Hp) (C : Addr) (n : Nat) (mk : List V → List (Str × V)) (t : TA) : L2.St → Hp → XK → Prop := fun σ H Q => t σ H fun vs H1 => vs.length = n ∧ mk vs ≠ [] ∧ (∀ a, H1 a = none → Fr0 H0 a) ∧ ∀ d H2, L2.Same H1 H2 → H2 d = some (exd d (mk vs)) → Q (.ref C) (some d) H2
theorem pmk_mk (hx : X.ex = []) (b : Bs B newId initId bmB) (D : Ec X.prog X.w X.K X.mg X.base x C newId bmB ps n mk) (hn : n ≤ 1000) (hr : Room 2 X.A) (ha : PA X (e :: es) t) (hg : Gl X x := by rfl)
    (hdb : (x == ("__debug__" : Str)) = false := by decide) (he : starEach (e :: es) X.env = (false, eval e X.env) :: starEach es X.env := by rfl) (hpl : (backTo pos (starEach es X.env)).any (·.1) = false := by rfl) :
    PMk X (.Call (.Name x p) (e :: es) [] pos) (tMkR X.H_0 C n mk t) := by
  obtain ⟨fI, fd, hi, tI, F, hb, _⟩ := D.ini
  intro pins s σ H Q I h
  refine wpAny_Call_Name_kw (ld_glob I hg D.g ?_ hdb)
  refine PySem.W.callWith_K (h₀ := X.base) I.ok.mod.kin D.cl.kC (thn (ha.run pos pins s σ H _ I h) fun us s1 ⟨vs, H1, I1, r, l, hne, h0, q⟩ => ⟨I1.kIn, ?_⟩) he hpl
  have hz : us.length ≤ sizeLine := by rw [← r.length, l]; exact Nat.le_trans hn (by decide)
  refine wpAny_mono (run_mk (Q := fun v H2 => ∃ a, v = .ref a ∧ H1 a = none ∧ L2.Same H1 H2 ∧ IsExc H2 a C (mk vs) vs) (ws := []) (zs := []) b D.cl hi tI F hr (kb_pos hb) I1 r .nil hz (fun a => ⟨vs, rfl, l, rfl⟩)
    fun a H2 h1 h2 h3 => ⟨a, rfl, h1, h2, h3⟩) (fun u s2 hu => ?_) fun _ _ z => z
  obtain ⟨v, H2, I2, rv, a, ev, na, sm, tt, ht, hh⟩ := hu
  subst ev
  cases (show u = Value.ref a from rv)
  rcases hh with ⟨z, _⟩ | ⟨d, ea, ed⟩
  · exact absurd z hne
  · have oa := exo_at I2.hok ea
    obtain ⟨mA, hns, _⟩ := exd_at I2.hok ed
    have nad : d ≠ a := fun z => by
      obtain ⟨od, es, ep, e1, e2, _⟩ := hns
      rw [z, oa] at e1
      cases e1
      cases e2
    obtain ⟨G, gs, ga, J⟩ := I2.untrack ea (h0 a na) hx
    refine ⟨a, _, _, { s2 with heap := G }, delH H2 a, .ref C, some d, rfl, J, gs, ga, oa, ⟨rfl, rfl⟩, rfl, rfl, delH_same, rfl, I2.bare, raises_own D.cl.exC D.cl.tyC, ?_⟩
    refine q d _ (fun b o eb => ?_) ?_
    · rw [delH_ne (ne_of_none eb na)]
      exact sm _ _ eb
    · rw [delH_ne nad]
      exact ed
end
end Rx

set_option Elab.async false
set_option linter.all false
set_option maxRecDepth 100000
set_option maxHeartbeats 4000000
namespace Rx
open PySem L2 Lay Own PySem.Spec PyProof.Rows Exv
/-! ### try, with except clauses that all name what they caught by the same name -/
/-- behind a suite its name is gone -/
def endI (i : Nat) (D : Ends) : Ends := { nx := fun τ G => D.nx (τ.set i none) G, rt := D.rt, bk := fun τ G => D.bk (τ.set i none) G, ct := fun τ G => D.ct (τ.set i none) G }
abbrev Clause := Value × (Addr → Value → Option Addr → TS)
/-- what the clauses wish, one behind the other; one of them fits -/
def wAll (K : PySem.W.Frag) (i : Nat) (D : Ends) : List Clause → WX
  | [] => fun _ _ _ _ => False
  | q :: more => fun cls d τ G => ∃ fits, PySem.W.exmOne K cls q.1 = some fits ∧ (fits = true → ∀ e, G e = none → q.2 e cls d (endI i D) (τ.set i (some (.ref e))) G) ∧ (fits = false → wAll K i D more cls d τ G)
inductive Hds (X : Cx) (n : Str) : List ExceptHandler → List Clause → Prop
  | nil : Hds X n [] []
  | cons {x : Str} {c : Value} {ts : Addr → Value → Option Addr → TS} {first : Stmt} {suite : List Stmt} {np hp : Pos} {more : List ExceptHandler} {l : List Clause} (nm : Names X x c)
      (su : ∀ (e : Addr) (ob : Obj) (cls : Value) (d : Option Addr) (pn : List (Addr × Obj)), Zc cls d ob → (∃ vs, ob.data = .fields vs) → PSs (X.suite e ((e, ob) :: pn)) (first :: suite) (ts e cls d)) (r : Hds X n more l) :
      Hds X n (.ExceptHandler (some (.Name x np)) (some n) (first :: suite) hp :: more) ((c, ts) :: l)
section
variable {X : Cx} {n : Str} {i : Nat} {body : List Stmt} {h0 : ExceptHandler} {hds : List ExceptHandler} {l : List Clause} {pos : Pos} {tb : WX → TS}
theorem ps_tryA (hs : X.stack = X.env :: X.outer) (hf : X.env.frame = some X.env.locals) (hN : X.N.Nodup) (hi : X.N[i]? = some n) (hln : X.env.kindOf n = some .local)
    (hb : ∀ (W : WX) (pn : List (Addr × Obj)) (xe : Value → Shared → Prop), Takes (X.tr pn xe) W → PassesOwn (model X.prog X.w) X.A X.env xe → PSs (X.tr pn xe) body (tb W)) (hh : Hds X n (h0 :: hds) l) :
    PS X (.Try body (h0 :: hds) [] [] pos) (fun D σ H => tb (wAll X.K i D l) D σ H) := by
  refine ⟨fun pins s σ H D I h => wpAny_Try_except ?_⟩
  have ok := I.ok
  have frames : X.A.frames = some (X.env :: X.outer) := by rw [ok.frames, hs]
  have run := (hb (wAll X.K i D l) (X.pn ++ pins) (fun e s1 => wpAny (model X.prog X.w) X.A (noteFrame e X.env) (fun _ s2 => wpAny (model X.prog X.w) X.A (setFlight e none)
    (fun _ s3 => wpAny (model X.prog X.w) X.A (handleBy e X.env (h0 :: hds)) (SP X pins D) X.xe s3) X.xe s2) X.xe s1) (fun u s' air => ?caught) PassesOwn.looking).run [] s σ H D (I.toTry _) h
  case caught =>
    obtain ⟨e, B, sI, pins', τ, G, cls, d, rfl, J', nb, up, sky, ne, os, ag, w⟩ := air
    have J : Inv X pins τ G sI := J'.ofTry ok
    rw [show (X.tr (X.pn ++ pins) (fun e s1 => wpAny (model X.prog X.w) X.A (noteFrame e X.env) (fun _ s2 => wpAny (model X.prog X.w) X.A (setFlight e none)
      (fun _ s3 => wpAny (model X.prog X.w) X.A (handleBy e X.env (h0 :: hds)) (SP X pins D) X.xe s3) X.xe s2) X.xe s1)).stack = X.env :: X.outer from hs] at sky
    refine Sky.land Zc.steady frames hf sky fun hL flL upL => ?_
    have JL : Inv X pins τ G { s' with heap := hL } := J.landed nb flL.1 (up.trans upL) os ag
    obtain ⟨obL, vsL, eL, zL, dL⟩ := flL.there
    have off : e ∉ frs (X.env :: X.outer) := fun hm => by
      obtain ⟨_, o2, e2, nf⟩ := flL.2.2.1.mem hm
      rw [eL] at e2
      cases e2
      exact nf _ dL
    have nL : e ≠ X.env.locals := fun z => off (List.mem_filterMap.mpr ⟨X.env, List.mem_cons_self, by rw [hf, z]⟩)
    have nF : e ∉ X.fs := fun hm => by
      obtain ⟨en, hen, q⟩ := List.mem_filterMap.mp hm
      exact off (List.mem_filterMap.mpr ⟨en, List.mem_cons_of_mem _ hen, q⟩)
    have SL := JL.suite eL dL ne nL nF
    suffices go : ∀ {hs' : List ExceptHandler} {l' : List Clause}, Hds X n hs' l' → wAll X.K i D l' cls d τ G → wpAny (model X.prog X.w) X.A (handleBy (.ref e) X.env hs') (SP X pins D) X.xe { s' with heap := hL } from go hh w
    intro hs' l' hk
    induction hk with
    | nil => exact fun z => False.elim z
    | @cons x c ts first suite np hp more l2 nm su r ih =>
      rintro ⟨fits, hq, yes, no⟩
      refine wpAny_handleBy_cons (codeAny_handlers_test ?_) (fun z => by cases z)
      have ty : PySem.W.Looks (model X.prog X.w) hL (typeOf (.ref e)) cls := fun A Q E s k q => wpAny_typeOf_ref (k _ _ eL) (by rw [zL.1]; exact q)
      have LM := PySem.W.exm_one (M := model X.prog X.w) JL.kIn ty hq
      have named : ∀ {Q : Value → Shared → Prop} {E : Value → Shared → Prop}, Q c { s' with heap := hL } → wpAny (model X.prog X.w) (X.A.mark (some (.ref e))) (eval (.Name x np) X.env) Q E { s' with heap := hL } := by
        intro Q E q
        rcases nm with ⟨hg, hdb, hm | ⟨hm, hv, hnn⟩⟩
        · exact ld_glob (X := X.suite e ((e, obL) :: (X.pn ++ pins))) SL hg hm q hdb
        · exact ld_blt (X := X.suite e ((e, obL) :: (X.pn ++ pins))) SL hg hm hv q hnn hdb
      refine named (LM.here ?_)
      cases fits with
      | false => exact ih (no rfl)
      | true =>
        refine codeAny_handlers_suite_as (HandSPX.lands_againZ flL fun hM flM upM => ?_)
        have JM : Inv X pins τ G { s' with heap := hM } := J.landed nb flM.1 ((up.trans upL).trans upM) os ag
        obtain ⟨obM, vsM, eM, zM, dM⟩ := flM.there
        have SM := JM.suite eM dM ne nL nF
        refine store_ok (X := X.suite e ((e, obM) :: (X.pn ++ pins))) (v := .ref e) SM hN hi (.inl hln) rfl (fun s5 S5 => ?_) (.inr hln)
        refine wpAny_mono ((su e obM cls d (X.pn ++ pins) zM ⟨_, dM⟩).run [] s5 _ G _ S5 (yes rfl e ne)) (fun f s6 hsp => ?_) (fun _ _ z => False.elim z)
        have away : ∀ {τ6 : L2.St} {G6 : Hp} {Q : Shared → Prop}, Inv (X.suite e ((e, obM) :: (X.pn ++ pins))) [] τ6 G6 s6 → (∀ s7, Inv X pins (τ6.set i none) G6 s7 → Q s7) →
            wpAny (model X.prog X.w) X.A (do bindName X.env n .none; unbindBehindTheSuite X.env n hp) (fun _ s7 => Q s7) X.xe s6 := fun S6 hq => gone_ok (S6.unsuite ok) hN hi hln hq
        cases f with
        | next => exact hsp.elim fun τ6 hsp => hsp.elim fun G6 ⟨S6, q6⟩ => away S6 fun s7 J7 => ⟨_, _, J7, q6⟩
        | brk => exact hsp.elim fun τ6 hsp => hsp.elim fun G6 ⟨S6, q6⟩ => away S6 fun s7 J7 => ⟨_, _, J7, q6⟩
        | cont => exact hsp.elim fun τ6 hsp => hsp.elim fun G6 ⟨S6, q6⟩ => away S6 fun s7 J7 => ⟨_, _, J7, q6⟩
        | ret u => exact hsp.elim fun v6 hsp => hsp.elim fun τ6 hsp => hsp.elim fun G6 ⟨S6, r6, q6⟩ => away S6 fun s7 J7 => ⟨_, _, _, J7, r6, q6⟩
  refine wpAny_mono run (fun f s1 hsp => ?_) fun _ _ z => z
  cases f with
  | next => exact hsp.elim fun τ hsp => hsp.elim fun G ⟨J, q⟩ => wpAny_execs_nil ⟨τ, G, J.ofTry ok, q⟩
  | brk => exact hsp.elim fun τ hsp => hsp.elim fun G ⟨J, q⟩ => ⟨τ, G, J.ofTry ok, q⟩
  | cont => exact hsp.elim fun τ hsp => hsp.elim fun G ⟨J, q⟩ => ⟨τ, G, J.ofTry ok, q⟩
  | ret u => exact hsp.elim fun v hsp => hsp.elim fun τ hsp => hsp.elim fun G ⟨J, r, q⟩ => ⟨v, τ, G, J.ofTry ok, r, q⟩
end
/-! ### the caught error: its fields, its class -/
section
variable {X : Cx} {a C : Addr} {ob : Obj} {cls : Value} {d : Option Addr} {pn : List (Addr × Obj)} {e : Expr} {te : TE} {pos : Pos} {f : Str} {newId : String} {bmB : List Value}
def tCf (a : Addr) (cls : Value) (d : Option Addr) (C : Addr) (f : Str) (te : TE) : TE := fun σ H Q => te σ H fun x H1 => x = .ref a ∧ cls = .ref C ∧ ∃ (dd : Addr) (fs : List (Str × V)) (v : V), d = some dd ∧ H1 dd = some (exd dd fs) ∧ fs.lookup f = some v ∧ Q v H1
theorem pe_cf (T : Cl X.K C newId bmB) (hno : PySem.W.findIn X.K (.ref C) f = some none) (hz : Zc cls d ob) (hd : ∃ vs, ob.data = .fields vs) (he : PE (X.suite a ((a, ob) :: pn)) e te) (hb : attributeBase e f X.env (eval e X.env) = eval e X.env := by rfl) :
    PE (X.suite a ((a, ob) :: pn)) (.Attribute e f pos) (tCf a cls d C f te) := by
  refine ⟨fun pins s σ H Q I h => attr_of hb (thn (he.run pins s σ H _ I h) fun u s1 ⟨x, H1, I1, rx, ex, ec, dd, fs, v, ed, ea, lk, q⟩ => ?_)⟩
  subst ex ec ed
  cases (show u = Value.ref a from rx)
  obtain ⟨at_, _⟩ := I1.pin (a, ob) (List.mem_append_left _ List.mem_cons_self)
  obtain ⟨vs, hv⟩ := hd
  obtain ⟨mA, hns, rel⟩ := exd_at I1.hok ea
  obtain ⟨od, hod, hl⟩ := lookIn_ns hns
  obtain ⟨u2, hu, ru⟩ := RelO.some_of (v := v) (o := mA f) (by rw [← lk]; exact rel f)
  have J : PySem.W.InstAt s1.heap a ob C (some od) := ⟨at_, hz.1, by unfold PySem.W.notCls; rw [hv] <;> rfl, by rw [hz.2]; exact hod⟩
  exact HandSPX.exc_get I1.kIn J T.ga T.gg T.exC (PySem.W.findObj_own T.hd hno rfl (by rw [hl, hu])) (handed_of ru) ⟨v, H1, I1.tok _, ru, q⟩
/-- isinstance(e, D) of the caught e -/
def rCi (K : PySem.W.Frag) (a : Addr) (cls : Value) (d : Option Addr) (C : Addr) : List V → Hp → VK → Prop := fun xs H Q => ∃ (c : V) (u : Value) (b : Bool) (dd : Addr) (fs : List (Str × V)), xs = [.ref a, c] ∧ cls = .ref C ∧ d = some dd ∧ H dd = some (exd dd fs) ∧ ClsV c u ∧ PySem.W.kitOne K (.ref C) u = some b ∧ Q (.bl b) H
theorem call_ci (T : Cl X.K C newId bmB) (G : Gs X.K) (hz : Zc cls d ob) (hd : ∃ vs, ob.data = .fields vs) : CallR (X.suite a ((a, ob) :: pn)) (.builtin "isinstance") (rCi X.K a cls d C) := by
  intro pins s σ H xs us Q I r h
  obtain ⟨c, u, b, dd, fs, rfl, ec, ed, ea, k, e, q⟩ := h
  obtain ⟨u1, u2, rfl, r1, r2⟩ := vals2 r
  have e2 := k.eq r2
  subst e2 ec ed
  cases (show u1 = Value.ref a from r1)
  obtain ⟨at_, _⟩ := I.pin (a, ob) (List.mem_append_left _ List.mem_cons_self)
  obtain ⟨vs, hv⟩ := hd
  have hc : (PySem.W.clsIn X.K C).isSome = true := by
    obtain ⟨cd, bm, h1, _⟩ := T.cd
    rw [h1]; rfl
  obtain ⟨mA, hns, rel⟩ := exd_at I.hok ea
  obtain ⟨od, hod, hl⟩ := lookIn_ns hns
  have J : PySem.W.InstAt s.heap a ob C (some od) := ⟨at_, hz.1, by unfold PySem.W.notCls; rw [hv] <;> rfl, by rw [hz.2]; exact hod⟩
  exact PySem.W.kia_one (PySem.Exv.kit_exc T.ga T.gg T.exC T.hd (PySem.W.findObj_data hc T.ha G.hn G.ht) T.hm) I.kIn J e (fun z => nomatch z) fun tk => ⟨.bl b, H, I.tok tk, rfl, q⟩
end
end Rx

set_option Elab.async false
set_option linter.all false
set_option maxRecDepth 100000
set_option maxHeartbeats 4000000
namespace Rx
open PySem L2 Lay Own PySem.Spec PyProof.Rows LamX
/-! ### a lambda handed to a def, the guards known -/
section
variable {X : Cx} {pins : List (Addr × Obj)} {σ : L2.St} {H : Hp} {s : Shared}
/-- the parameter called, in the def that got the lambda -/
theorem pe_actG {CXg : CXT} {Eg : XK} {Ng : List Str} {qg a : Str} {sg scope : Scope} {g f c' : Addr} {cdg pm ctv : Value} {params : Arguments} {body : Expr} {k i : Nat} {pn : List (Addr × Obj)} {xe : Value → Shared → Prop} {W : WX} {t : XK → TE} {p1 p2 : Pos}
    (I : Inv X pins σ H s) (L : LamS X.env.scope scope) (hgA : X.A.guards = some [])
    (hf : s.heap.get? f = some (PySem.W.kla_obj "<lambda>" (X.env.qual ++ "<lambda>") params body scope (cloFrom X.env.cells scope.names []) pm c' ctv)) (hfn : H f = none) (hfr : f ∉ frs X.stack)
    (bnd : bindArgs (PySem.W.kla_fn "<lambda>" (X.env.qual ++ "<lambda>") params body scope (cloFrom X.env.cells scope.names []) pm (.ref c') ctv) ⟨[], []⟩ = pure [])
    (tk : Takes ((cxOf CXg X.prog X.w X.K X.mg X.base Ng qg sg g cdg X.A X.stack s H Eg).tr pn xe) W) (hr : Room (k + 1) (X.A.deeper (envOfC qg sg s.heap.objs.size g cdg)))
    (walk : ∀ (E : XK) (A : Around) (outer : List Env) (s : Shared) (H : Hp), Room k (A.deeper (lamEnv X scope s.heap.objs.size f c')) → A.guards = some [] → PE (lamCx X A outer s H E scope f c') body (t E))
    (hN : Ng[i]? = some a) (hv : Vis sg a) (hd : (a == ("__debug__" : Str)) = false) (hcd : (a == ("__classdict__" : Str)) = false) :
    PE ((cxOf CXg X.prog X.w X.K X.mg X.base Ng qg sg g cdg X.A X.stack s H Eg).tr pn xe) (.Call (.Name a p1) [] [] p2)
      (fun τ G Q => ∃ E : XK, (∀ cls d G', E cls d G' → W cls d τ G') ∧ τ[i]? = some (some (.ref f)) ∧ G c' = some (CodeO c' (X.env.qual ++ "<lambda>")) ∧ t E σ G Q) := by
  refine ⟨fun pinsZ sZ τ G Q IZ ⟨E, hW, slot, code, rd⟩ => ?_⟩
  have name := (pe_var (X := (cxOf CXg X.prog X.w X.K X.mg X.base Ng qg sg g cdg X.A X.stack s H Eg).tr pn xe) (pos := p1) (i := i) hN hv hd hcd).run pinsZ sZ τ G (fun v G1 => v = .ref f ∧ G1 = G) IZ ⟨.ref f, slot, rfl, rfl⟩
  refine wpAny_Call_Name_kw (thn name fun u s1 ⟨v, G1, I1, r1, ev, eG⟩ => ?_)
  subst ev
  rw [eG] at I1
  cases (show u = Value.ref f from r1)
  have stays : s1.heap.get? f = some (PySem.W.kla_obj "<lambda>" (X.env.qual ++ "<lambda>") params body scope (cloFrom X.env.cells scope.names []) pm c' ctv) :=
    I1.base.keep f _ hf hfn hfr fun z => by cases (show f ∈ ([] : List Addr) from z)
  have same : Un (frs X.stack) [] H G s.heap s1.heap := I1.base
  refine PySem.W.callWith_F0 ⟨_, _, _, _, stays⟩ ?_
  obtain ⟨⟨oc, vs, t, hoc, hdc, hvc⟩, _, _⟩ := I1.hok c' _ code
  have called : codeAny (model X.prog X.w) (X.A.deeper (envOfC qg sg s.heap.objs.size g cdg)) (.call (.ref f) ⟨[], []⟩) (CR (L2.CX X.prog X.w) (envOfC qg sg s.heap.objs.size g cdg :: X.stack) X.prog X.w G s1 Q E) s1 := by
    refine PySem.W.kla_callFunE hr.depth stays rfl L.co L.gen rfl ⟨c', oc, vs, t, rfl, hoc, hdc, hvc⟩ ?_
    rw [bnd]
    refine wpAny_pure (wpAny_newFunctionEnv (fun y hy => (L.own y hy).2) (fun y hy => by cases hy) (fun h1 ns but => ⟨I1.nolimit.fresh _ but, ?_⟩) L.kind)
    show codeAny _ _ (.expr body (lamEnv X scope s1.heap.objs.size f c')) _ _
    have J : Inv (lamCx X (X.A.deeper (envOfC qg sg s.heap.objs.size g cdg)) (envOfC qg sg s.heap.objs.size g cdg :: X.stack) s1 G E scope f c') [] σ G { s1 with heap := h1, toks := s1.toks + ([] : List (Str × Value)).length } :=
      lam_start2 I L I1.env0 hr.hd same ns fun b o e => but.extBut b o (Nat.ne_of_lt (Heap.lt_size e)) (Heap.get?_push_of_some _ e)
    have ran := (walk E _ _ s1 G (hr.deeper _) hgA).run [] _ _ G Q J rd
    exact PySem.W.kla_codeExpr (wpAny_mono ran (fun v s' ⟨w', G', J', rv, q⟩ => ⟨w', G', J'.os, J'.bare, J'.base, J'.hok, rv, q⟩) fun e s' z => z)
  refine wpAny_call (codeAny_mono called fun r s' hq => ?_)
  cases r with
  | error e => exact tk e s' (XE.of_call I1 hW hq)
  | ok fl => cases fl with
    | ret u => exact I1.after hq
    | _ => exact False.elim hq
/-- the def that calls what it got; TT: what it makes of the lambda's reading -/
def GivesW (X : Cx) (Ng : List Str) (x : Str) (sg : Scope) (g : Addr) (cdg : Value) (bg : List Stmt) (a q : Str) (TT : (XK → Hp → VK → Prop) → Hp → VK → Prop) : Prop :=
  ∀ (f c' : Addr) (s : Shared) (H : Hp) (Q : VK) (tl : XK → Hp → VK → Prop),
    (∀ (W : WX) (pn : List (Addr × Obj)) (xe : Value → Shared → Prop) (p1 p2 : Pos), Takes ((cxOf C8.CX0 X.prog X.w X.K X.mg X.base Ng x sg g cdg X.A X.stack s H C8.E0).tr pn xe) W →
      PE ((cxOf C8.CX0 X.prog X.w X.K X.mg X.base Ng x sg g cdg X.A X.stack s H C8.E0).tr pn xe) (.Call (.Name a p1) [] [] p2)
        (fun τ G Q' => ∃ E : XK, (∀ cls d G', E cls d G' → W cls d τ G') ∧ τ[0]? = some (some (.ref f)) ∧ G c' = some (CodeO c' q) ∧ tl E G Q')) →
    H c' = some (CodeO c' q) → TT tl H Q →
    ∃ t, PSs (cxOf C8.CX0 X.prog X.w X.K X.mg X.base Ng x sg g cdg X.A X.stack s H C8.E0) bg t ∧ t { nx := fun _ H' => Q .non H', rt := Q } (L2.start Ng [.ref f]) H
/-- x(lambda: body), the guards known -/
theorem pe_lamG {T : List (Addr × Str)} {TT : (XK → Hp → VK → Prop) → Hp → VK → Prop} {x a : Str} {g c P : Addr} {k : Nat} {pg params : Arguments} {bg : List Stmt} {sg scope : Scope} {dV kV doc pm cdv ct oc : Value} {an od : Option Addr} {osl : Array (Option Value)} {Ng : List Str}
    {body : Expr} {t : XK → TE} {p lpos pos : Pos} (hgA : X.A.guards = some []) (hm : X.mg x = some (.ref g)) (hk : PySem.W.keepIn X.K (.ref g) = true)
    (lk : X.K.lookup g = some ⟨oc, od, .func (PySem.W.fnOf x x pg bg sg dV kV doc pm an cdv ct), osl⟩) (hcg : PySem.W.codeIn X.K cdv x = true) (hb : L2.Binds X.K (PySem.W.fnOf x x pg bg sg dV kV doc pm an cdv ct) [a] []) (Sg : FnScope Ng [a] sg) (hNg : Ng[0]? = some a) (hva : Vis sg a)
    (hG : GivesW X Ng x sg g cdv bg a (X.env.qual ++ "<lambda>") TT) (TB : TabB X.base X.mg c P) (hcode : X.env.code = .ref c) (hmT : (P, X.env.qual ++ "<lambda>") ∈ T) (hu : ∀ p ∈ T, p.1 = P → p.2 = X.env.qual ++ "<lambda>") (hr : Room (k + 2) X.A)
    (L : LamS X.env.scope scope) (hdef : defaultsOf params X.env = ([], [])) (hbind : ∀ (q : Str) (cl : List (Str × Addr)) (pm cv ctv : Value), bindArgs (PySem.W.kla_fn "<lambda>" q params body scope cl pm cv ctv) ⟨[], []⟩ = pure [])
    (walk : ∀ (A : Around) (outer : List Env) (s : Shared) (H : Hp) (E : XK) (f c' : Addr), Room k (A.deeper (lamEnv X scope s.heap.objs.size f c')) → A.guards = some [] → PE (lamCx X A outer s H E scope f c') body (t E))
    (hg : Gl X x := by rfl) (hdb : (x == ("__debug__" : Str)) = false := by decide) (hd : (a == ("__debug__" : Str)) = false := by decide) (hcd : (a == ("__classdict__" : Str)) = false := by decide) :
    PE X (.Call (.Name x p) [.Lambda params body scope lpos] [] pos) (tLam T TT t) := by
  refine ⟨fun pins s σ H Q I ⟨hT, h⟩ => wpAny_Call_Name_kw (ld_glob I hg hm (PySem.W.callWith_K (h₀ := X.base) I.ok.mod.kin hk ?_ (by rfl) (by rfl)) hdb)⟩
  show wpAny _ _ (spliced ((false, eval (.Lambda params body scope lpos) X.env) :: backTo pos (starEach [] X.env))) _ _ s
  refine Calls.spliced_cons (lam_make2 I TB hcode hmT hu hT hdef (L.has I.ok) fun f c' pm' ctv H1 s' I1 eN T1 hf hfn hfr hco => Calls.spliced_nil ⟨I1.kIn, ?_⟩)
  have called : codeAny (model X.prog X.w) X.A (.call (.ref g) ⟨[.ref f], []⟩) (CR C8.CX0 X.stack X.prog X.w H1 s' Q C8.E0) s' := by
    refine run_ofS (N := Ng) (ps := [a]) (us := [.ref f]) (vs := [.ref f]) lk hcg Sg hr I1.env0 (hb s' [.ref f] I1.kIn rfl) (.cons rfl .nil) rfl fun hr' => ?_
    have act := hG f c' s' H1 Q (fun E G Q' => t E σ G Q') (fun W pn xe p1 p2 tk => pe_actG (i := 0) (t := t) I1 L hgA hf hfn hfr (hbind _ _ _ _ _) tk hr' (fun E A outer s H hr2 hg2 => walk A outer s H E f c' hr2 hg2) hNg hva hd hcd) hco (h H1 eN T1)
    exact act
  refine wpAny_call (codeAny_mono called fun r s2 hq => ?_)
  cases r with
  | error e => exact False.elim hq
  | ok fl => cases fl with
    | ret u => exact I1.after hq
    | _ => exact False.elim hq
end
end Rx

set_option Elab.async false
set_option linter.all false
set_option maxRecDepth 100000
set_option maxHeartbeats 4000000
namespace Rx
open PySem L2 Lay Own PySem.Spec PyProof.Rows
/-! ### o.m(e), o.m(k = e), where m may raise -/
def Kw2 (fd : FuncData) (ps : List Str) : Prop := ∀ a b u v, ps = [a, b] → bindArgs fd ⟨[u], [(b, v)]⟩ = pure [(a, u), (b, v)]
section
variable {P : Program} {w : World} {K : PySem.W.Frag} {mg : Str → Option Value} {base : Heap} {f g : Addr} {fd : FuncData} {ps : List Str} {k : Nat} {sp : Sp}
theorem FnGX.of (F : FnG P w K mg base CX0 k f fd ps sp) : FnGX P w K mg base k f fd ps sp :=
  ⟨F.len, fun A outer s H args us vs Q E hr hg e0 hb r h => codeAny_mono (F.run A outer s H args us vs Q E hr hg e0 hb r h) fun r s' hq => by
    cases r with
    | error e => exact False.elim hq
    | ok fl => cases fl <;> exact hq⟩
theorem FnPX.of (F : FnP P w K mg base k g sp) : FnPX P w K mg base k g sp := fun A outer s H us vs Q E hr hg e0 r h => codeAny_mono (F A outer s H us vs Q E hr hg e0 r h) fun r s' hq => by
  cases r with
  | error e => exact False.elim hq
  | ok fl => cases fl <;> exact hq
end
section
variable {X : Cx} {W : WX} {m : Str} {ps : List Str} {sp : Sp} {k : Nat} {f g C : Addr} {fd : FuncData} {o e : Expr} {es : List Expr} {t : TA} {te : TE} {p pos apos : Pos} {pl : Sem Bool}
theorem takesNo {X : Cx} : Takes X (fun _ _ _ _ => False) := fun _ _ ⟨_, _, _, _, _, _, _, _, _, _, _, _, _, _, _, _, z⟩ => z.elim
def tMethX (W : WX) (C : Addr) (m : Str) (sp : Sp) (te : TE) (t : TA) : TE := fun σ H Q => te σ H fun x H1 => ∃ a dx fs, x = .ref a ∧ H1 a = some (.ins C dx fs) ∧ fs.lookup m = none ∧ t σ H1 fun vs H2 => sp (.ref a :: vs) H2 Q (wAt W σ)
theorem pe_methX (tk : Takes X W) (he : PE X o te) (c : Cls X.K C) (hm : Meth X.K C m f) (F : FnPX X.prog X.w X.K X.mg X.base k f sp) (hr : Room k X.A) (hgd : X.A.guards = some []) (ha : PA X (e :: es) t)
    (hst : starEach (e :: es) X.env = (false, eval e X.env) :: starEach es X.env := by rfl) (hpl : (backTo pos (starEach es X.env)).any (·.1) = false := by rfl)
    (ht : eval (.Call (.Attribute o m apos) (e :: es) [] pos) X.env = (do
      let ov ← eval o X.env
      standAt apos.atName
      let (f, first) ← holding [ov] (getMethod ov m pl)
      callWith pos f first (backTo pos (starEach (e :: es) X.env)) (backToKw pos (keywordEach [] X.env))) := by rfl) :
    PE X (.Call (.Attribute o m apos) (e :: es) [] pos) (tMethX W C m sp te t) := by
  refine ⟨fun pins s σ H Q I h => ?_⟩
  refine PySem.W.methodCall_KW (pl := pl) (thn (he.run pins s σ H _ I h) fun u s1 ⟨x, H1, I1, rx, a, dx, fs, ex, ea, l, q⟩ => ?_) ht
  subst ex
  cases (show u = Value.ref a from rx)
  refine getmeth_ok I1 ea c hm l ?_
  refine PySem.W.callWith_K (first := [.ref a]) (h₀ := X.base) I1.ok.mod.kin hm.kp (thn (ha.run pos pins s1 σ H1 _ I1 q) fun us s3 ⟨vs, H2, I3, rv, q2⟩ => ⟨I3.kIn, ?_⟩) hst hpl
  exact wpAny_call (run_PX (us := .ref a :: us) (vs := .ref a :: vs) tk F hr hgd I3.env0 I3 (.cons rfl rv) q2)
theorem pe_methXK {a1 q : Str} {kws : List Keyword} {tkw : TA} (tk : Takes X W) (he : PE X o te) (c : Cls X.K C) (hm : Meth X.K C m f) (F : FnGX X.prog X.w X.K X.mg X.base k f fd [a1, q] sp) (b : Kw2 fd [a1, q]) (hr : Room k X.A) (hgd : X.A.guards = some [])
    (hkw : PK X kws tkw) (hall : (backToKw pos (keywordEach kws X.env)).all (·.1.isSome) = true := by rfl) (hks : (backToKw pos (keywordEach kws X.env)).filterMap (·.1) = [q] := by rfl)
    (hpl : ((backTo pos (starEach [] X.env)).any (·.1) || (backToKw pos (keywordEach kws X.env)).any (·.1.isNone)) = false := by rfl)
    (ht : eval (.Call (.Attribute o m apos) [] kws pos) X.env = (do
      let ov ← eval o X.env
      standAt apos.atName
      let (f, first) ← holding [ov] (getMethod ov m pl)
      callWith pos f first (backTo pos (starEach [] X.env)) (backToKw pos (keywordEach kws X.env))) := by rfl) :
    PE X (.Call (.Attribute o m apos) [] kws pos) (tMethX W C m sp te tkw) := by
  refine ⟨fun pins s σ H Q I h => ?_⟩
  refine PySem.W.methodCall_KW (pl := pl) (thn (he.run pins s σ H _ I h) fun u s1 ⟨x, H1, I1, rx, a, dx, fs, ex, ea, l, q⟩ => ?_) ht
  subst ex
  cases (show u = Value.ref a from rx)
  refine getmeth_ok I1 ea c hm l ?_
  refine PySem.W.callWith_KW0 (first := [.ref a]) (h₀ := X.base) I1.ok.mod.kin hm.kp hall ?_ hpl
  refine thn (hkw.run pos pins s1 σ H1 _ I1 q) fun ws s3 ⟨zs, H2, I3, rz, q2⟩ => ⟨I3.kIn, ?_⟩
  rw [hks]
  have hl : zs.length + 1 = 2 := F.len _ _ _ _ q2
  cases rz with
  | nil => cases hl
  | @cons z u zr ur h1 more =>
    cases more with
    | cons _ _ => simp at hl
    | nil =>
      have b1 : BindsTo s3 fd ⟨[.ref a], [(_, u)]⟩ ([_, _].zip [.ref a, u]) := .of_eq (b _ _ (.ref a) u rfl)
      exact wpAny_call (run_GX tk F hr hgd I3 (us := [.ref a, u]) (vs := [.ref a, z]) b1 (.cons rfl (.cons h1 .nil)) q2)
end
end Rx

set_option Elab.async false
set_option linter.all false
set_option maxRecDepth 100000
set_option maxHeartbeats 4000000
/-- addresses: the class, a static method's def -/
def kc (K : PySem.W.Frag) : PySem.Addr := He.ga K "Kind"
namespace Kd
open PySem
def rc (K : PySem.W.Frag) (m kind : String) : Addr := match PySem.W.recIn K (He.ma K (kc K) m) kind with
  | some (.ref g :: _) => g
  | _ => 0
def st (K : PySem.W.Frag) (m : String) : Addr := rc K m "staticmethod"
end Kd
namespace K12
open PySem L2 Lay Own
def top (i : Nat) : Stmt := PySem.Challenge.pw_twoeach_k12_kinds_held_and_renamed.main.body.getD i (.Pass ⟨0, 0, 0, 0⟩)
def inClass (s : Stmt) (j : Nat) : Stmt := match s with
  | .ClassDef _ _ _ b _ _ _ _ _ _ _ => b.getD j (.Pass ⟨0, 0, 0, 0⟩)
  | _ => .Pass ⟨0, 0, 0, 0⟩
abbrev s_is_integer : Stmt := top 3
theorem sc_is_integer : FnScope ["value"] ["value"] (defScope s_is_integer) := ⟨rfl, rfl, rfl, by decide +kernel, rfl, by decide +kernel, by decide +kernel⟩
abbrev s_is_name : Stmt := top 4
theorem sc_is_name : FnScope ["value"] ["value"] (defScope s_is_name) := ⟨rfl, rfl, rfl, by decide +kernel, rfl, by decide +kernel, by decide +kernel⟩
abbrev s_is_list : Stmt := top 5
theorem sc_is_list : FnScope ["value"] ["value"] (defScope s_is_list) := ⟨rfl, rfl, rfl, by decide +kernel, rfl, by decide +kernel, by decide +kernel⟩
abbrev s_in_order : Stmt := top 13
theorem sc_in_order : FnScope ["rows", "half"] ["rows"] (defScope s_in_order) := ⟨rfl, rfl, rfl, by decide +kernel, rfl, by decide +kernel, by decide +kernel⟩
abbrev s_merged : Stmt := top 14
theorem sc_merged : FnScope ["one", "other", "out", "at", "beside"] ["one", "other"] (defScope s_merged) := ⟨rfl, rfl, rfl, by decide +kernel, rfl, by decide +kernel, by decide +kernel⟩
abbrev s_is_distance : Stmt := top 18
theorem sc_is_distance : FnScope ["value"] ["value"] (defScope s_is_distance) := ⟨rfl, rfl, rfl, by decide +kernel, rfl, by decide +kernel, by decide +kernel⟩
abbrev s_is_entry : Stmt := top 19
theorem sc_is_entry : FnScope ["value", "across", "up", "name"] ["value"] (defScope s_is_entry) := ⟨rfl, rfl, rfl, by decide +kernel, rfl, by decide +kernel, by decide +kernel⟩
abbrev s_is_renaming : Stmt := top 20
theorem sc_is_renaming : FnScope ["value", "new", "name"] ["value"] (defScope s_is_renaming) := ⟨rfl, rfl, rfl, by decide +kernel, rfl, by decide +kernel, by decide +kernel⟩
abbrev s_check_entries : Stmt := top 21
theorem sc_check_entries : FnScope ["entries", "position", "entry"] ["entries"] (defScope s_check_entries) := ⟨rfl, rfl, rfl, by decide +kernel, rfl, by decide +kernel, by decide +kernel⟩
abbrev s_normed : Stmt := top 22
theorem sc_normed : FnScope ["entries", "low", "bottom", "entry", "across", "up", "name"] ["entries"] (defScope s_normed) := ⟨rfl, rfl, rfl, by decide +kernel, rfl, by decide +kernel, by decide +kernel⟩
abbrev s_reach_of : Stmt := top 23
theorem sc_reach_of : FnScope ["entries", "entry"] ["entries"] (defScope s_reach_of) := ⟨rfl, rfl, rfl, by decide +kernel, rfl, by decide +kernel, by decide +kernel⟩
abbrev s_check_reach : Stmt := top 24
theorem sc_check_reach : FnScope ["reach", "across", "up"] ["reach"] (defScope s_check_reach) := ⟨rfl, rfl, rfl, by decide +kernel, rfl, by decide +kernel, by decide +kernel⟩
abbrev s_shifted : Stmt := top 25
theorem sc_shifted : FnScope ["entries", "shift", "right", "upwards", "across", "up", "name"] ["entries", "shift"] (defScope s_shifted) := ⟨rfl, rfl, rfl, by decide +kernel, rfl, by decide +kernel, by decide +kernel⟩
abbrev s_lie_among : Stmt := top 26
theorem sc_lie_among : FnScope ["entries", "others", "entry"] ["entries", "others"] (defScope s_lie_among) := ⟨rfl, rfl, rfl, by decide +kernel, rfl, by decide +kernel, by decide +kernel⟩
abbrev s_shifts_among : Stmt := top 27
theorem sc_shifts_among : FnScope ["entries", "others", "left", "bottom", "first", "shifts", "across", "up", "name", "shift"] ["entries", "others"] (defScope s_shifts_among) := ⟨rfl, rfl, rfl, by decide +kernel, rfl, by decide +kernel, by decide +kernel⟩
abbrev s_l_pot : Stmt := top 30
theorem sc_l_pot : FnScope ["_law_script", "_law_k", "_law_cell"] ["_law_script", "_law_k"] (defScope s_l_pot) := ⟨rfl, rfl, rfl, by decide +kernel, rfl, by decide +kernel, by decide +kernel⟩
abbrev s_l_draw : Stmt := top 31
theorem sc_l_draw : FnScope ["_law_pot_here", "_law_many", "_law_digit"] ["_law_pot_here", "_law_many"] (defScope s_l_draw) := ⟨rfl, rfl, rfl, by decide +kernel, rfl, by decide +kernel, by decide +kernel⟩
abbrev s_l_among : Stmt := top 32
theorem sc_l_among : FnScope ["_law_pot_here", "_law_some"] ["_law_pot_here", "_law_some"] (defScope s_l_among) := ⟨rfl, rfl, rfl, by decide +kernel, rfl, by decide +kernel, by decide +kernel⟩
abbrev s_l_names : Stmt := top 33
theorem sc_l_names : FnScope ["_law_pot_here", "_law_many", "_law_letters", "_law_found", "_law_turn", "_law_far", "_law_word", "_law_fresh", "_law_sign", "_law_one"] ["_law_pot_here", "_law_many"] (defScope s_l_names) := ⟨rfl, rfl, rfl, by decide +kernel, rfl, by decide +kernel, by decide +kernel⟩
abbrev s_l_normed : Stmt := top 34
theorem sc_l_normed : FnScope ["_law_some", "_law_left", "_law_low", "_law_part_here"] ["_law_some"] (defScope s_l_normed) := ⟨rfl, rfl, rfl, by decide +kernel, rfl, by decide +kernel, by decide +kernel⟩
abbrev s_l_entries : Stmt := top 35
theorem sc_l_entries : FnScope ["_law_pot_here", "_law_tags", "_law_broad", "_law_high", "_law_free", "_law_across", "_law_up", "_law_found", "_law_turn", "_law_tag"] ["_law_pot_here", "_law_tags"] (defScope s_l_entries) := ⟨rfl, rfl, rfl, by decide +kernel, rfl, by decide +kernel, by decide +kernel⟩
abbrev s_l_part : Stmt := top 36
theorem sc_l_part : FnScope ["_law_pot_here", "_law_some", "_law_left", "_law_found", "_law_turn"] ["_law_pot_here", "_law_some"] (defScope s_l_part) := ⟨rfl, rfl, rfl, by decide +kernel, rfl, by decide +kernel, by decide +kernel⟩
abbrev s_l_more : Stmt := top 37
theorem sc_l_more : FnScope ["_law_pot_here", "_law_some", "_law_tags", "_law_part_here", "_law_near", "_law_fresh", "_law_one"] ["_law_pot_here", "_law_some", "_law_tags"] (defScope s_l_more) := ⟨rfl, rfl, rfl, by decide +kernel, rfl, by decide +kernel, by decide +kernel⟩
abbrev s_l_shifts : Stmt := top 38
theorem sc_l_shifts : FnScope ["_law_some", "_law_others", "_law_found", "_law_across", "_law_up", "_law_part_here"] ["_law_some", "_law_others"] (defScope s_l_shifts) := ⟨rfl, rfl, rfl, by decide +kernel, rfl, by decide +kernel, by decide +kernel⟩
abbrev s_l_pair_right : Stmt := top 39
theorem sc_l_pair_right : FnScope ["_law_some", "_law_others", "_law_one", "_law_mate", "_law_due", "_law_back", "_law_told", "_law_signs"] ["_law_some", "_law_others"] (defScope s_l_pair_right) := ⟨rfl, rfl, rfl, by decide +kernel, rfl, by decide +kernel, by decide +kernel⟩
abbrev s_l_heard : Stmt := top 40
theorem sc_l_heard : FnScope ["_law_call", "_law_heard_here", "e"] ["_law_call"] (defScope s_l_heard) := ⟨rfl, rfl, rfl, by decide +kernel, rfl, by decide +kernel, by decide +kernel⟩
abbrev s_l_bad : Stmt := top 41
theorem sc_l_bad : FnScope ["_law_pot_here", "_law_known", "_law_tags", "_law_one", "_law_word", "_law_wrong", "_law_bad_here", "_law_rest", "_law_spare", "_law_odd", "_law_turn", "_law_tag"] ["_law_pot_here", "_law_known", "_law_tags"] (defScope s_l_bad) := ⟨rfl, rfl, rfl, by decide +kernel, rfl, by decide +kernel, by decide +kernel⟩
abbrev s_l_renamed_right : Stmt := top 42
theorem sc_l_renamed_right : FnScope ["_law_pot_here", "_law_some", "_law_tags", "_law_own", "_law_goals", "_law_keys", "_law_known", "_law_made", "_law_key", "_law_due", "_law_kept", "_law_told", "_law_back", "_law_turn", "_law_bad_here", "_law_part_here", "_law_tag", "_law_one"] ["_law_pot_here", "_law_some", "_law_tags"] (defScope s_l_renamed_right) := ⟨rfl, rfl, rfl, by decide +kernel, rfl, by decide +kernel, by decide +kernel⟩
abbrev s_l_right : Stmt := top 43
theorem sc_l_right : FnScope ["_law_pot_here", "_law_tags", "_law_some", "_law_part_here", "_law_pairs", "_law_pair"] ["_law_pot_here"] (defScope s_l_right) := ⟨rfl, rfl, rfl, by decide +kernel, rfl, by decide +kernel, by decide +kernel⟩
abbrev s_law : Stmt := top 44
theorem sc_law : FnScope ["_law_script", "_law_k"] ["_law_script"] (defScope s_law) := ⟨rfl, rfl, rfl, by decide +kernel, rfl, by decide +kernel, by decide +kernel⟩
abbrev s_Kind_of : Stmt := inClass (top 28) 3
theorem sc_Kind_of : FnScope ["entries"] ["entries"] (defScope s_Kind_of) := ⟨rfl, rfl, rfl, by decide +kernel, rfl, by decide +kernel, by decide +kernel⟩
abbrev s_Kind_entries : Stmt := inClass (top 28) 6
theorem sc_Kind_entries : FnScope ["self"] ["self"] (defScope s_Kind_entries) := ⟨rfl, rfl, rfl, by decide +kernel, rfl, by decide +kernel, by decide +kernel⟩
abbrev s_Kind_names : Stmt := inClass (top 28) 7
theorem sc_Kind_names : FnScope ["self", "entry"] ["self"] (defScope s_Kind_names) := ⟨rfl, rfl, rfl, by decide +kernel, rfl, by decide +kernel, by decide +kernel⟩
abbrev s_Kind_shifts_in : Stmt := inClass (top 28) 8
theorem sc_Kind_shifts_in : FnScope ["self", "other"] ["self", "other"] (defScope s_Kind_shifts_in) := ⟨rfl, rfl, rfl, by decide +kernel, rfl, by decide +kernel, by decide +kernel⟩
abbrev s_Kind_renamed : Stmt := inClass (top 28) 11
theorem sc_Kind_renamed : FnScope ["self", "names", "name", "across", "up"] ["self", "names"] (defScope s_Kind_renamed) := ⟨rfl, rfl, rfl, by decide +kernel, rfl, by decide +kernel, by decide +kernel⟩
abbrev s_Kind___le : Stmt := inClass (top 28) 14
theorem sc_Kind___le : FnScope ["self", "other"] ["self", "other"] (defScope s_Kind___le) := ⟨rfl, rfl, rfl, by decide +kernel, rfl, by decide +kernel, by decide +kernel⟩
abbrev s_Kind___ge : Stmt := inClass (top 28) 15
theorem sc_Kind___ge : FnScope ["self", "other"] ["self", "other"] (defScope s_Kind___ge) := ⟨rfl, rfl, rfl, by decide +kernel, rfl, by decide +kernel, by decide +kernel⟩
abbrev s_Kind___eq : Stmt := inClass (top 28) 16
theorem sc_Kind___eq : FnScope ["self", "other"] ["self", "other"] (defScope s_Kind___eq) := ⟨rfl, rfl, rfl, by decide +kernel, rfl, by decide +kernel, by decide +kernel⟩
abbrev s_Kind___init : Stmt := inClass (top 28) 2
theorem sc_Kind___init : FnScope ["self", "entries", "own", "reach"] ["self", "entries"] (defScope s_Kind___init) := ⟨rfl, rfl, rfl, by decide +kernel, rfl, by decide +kernel, by decide +kernel⟩
/-- a method of the class -/
def Ms (K : PySem.W.Frag) (m qual : Str) (s : Stmt) (f : Addr) (ps : List Str) : Prop := ∃ fd, Fun K m qual s f fd ∧ Binds K fd ps [] ∧ Kw1 fd ps ∧ Rx.Kw2 fd ps
def Ty7 : List String := ["NoneType", "bool", "int", "str", "list", "tuple", "dict"]
structure Txt (K : PySem.W.Frag) (mg : Str → Option Value) : Prop where
  n_len : mg "len" = none
  n_int : mg "int" = none
  n_abs : mg "abs" = none
  n_max : mg "max" = none
  n_min : mg "min" = none
  n_divmod : mg "divmod" = none
  n_isinstance : mg "isinstance" = none
  n_bool : mg "bool" = none
  n_str : mg "str" = none
  n_repr : mg "repr" = none
  n_range : mg "range" = none
  n_all : mg "all" = none
  n_any : mg "any" = none
  n_tuple : mg "tuple" = none
  n_list : mg "list" = none
  n_sorted : mg "sorted" = none
  n_set : mg "set" = none
  n_enumerate : mg "enumerate" = none
  n_dict : mg "dict" = none
  n_ValueError : mg "ValueError" = none
  c_MOST_LETTERS : ∃ u, mg "MOST_LETTERS" = some u ∧ RelV (.int 8) u
  c_FARTHEST : ∃ u, mg "FARTHEST" = some u ∧ RelV (.int 20) u
  c_FEWEST_ENTRIES : ∃ u, mg "FEWEST_ENTRIES" = some u ∧ RelV (.int 2) u
  S_is_integer : Src K mg "is_integer" s_is_integer ["value"]
  S_is_name : Src K mg "is_name" s_is_name ["value"]
  S_is_list : Src K mg "is_list" s_is_list ["value"]
  S_in_order : Src K mg "in_order" s_in_order ["rows"]
  S_merged : Src K mg "merged" s_merged ["one", "other"]
  S_is_distance : Src K mg "is_distance" s_is_distance ["value"]
  S_is_entry : Src K mg "is_entry" s_is_entry ["value"]
  S_is_renaming : Src K mg "is_renaming" s_is_renaming ["value"]
  S_check_entries : Src K mg "check_entries" s_check_entries ["entries"]
  S_normed : Src K mg "normed" s_normed ["entries"]
  S_reach_of : Src K mg "reach_of" s_reach_of ["entries"]
  S_check_reach : Src K mg "check_reach" s_check_reach ["reach"]
  S_shifted : Src K mg "shifted" s_shifted ["entries", "shift"]
  S_lie_among : Src K mg "lie_among" s_lie_among ["entries", "others"]
  S_shifts_among : Src K mg "shifts_among" s_shifts_among ["entries", "others"]
  S_l_pot : Src K mg "_law_pot" s_l_pot ["_law_script", "_law_k"]
  S_l_draw : Src K mg "_law_draw" s_l_draw ["_law_pot_here", "_law_many"]
  S_l_among : Src K mg "_law_among" s_l_among ["_law_pot_here", "_law_some"]
  S_l_names : Src K mg "_law_names" s_l_names ["_law_pot_here", "_law_many"]
  S_l_normed : Src K mg "_law_normed" s_l_normed ["_law_some"]
  S_l_entries : Src K mg "_law_entries" s_l_entries ["_law_pot_here", "_law_tags"]
  S_l_part : Src K mg "_law_part" s_l_part ["_law_pot_here", "_law_some"]
  S_l_more : Src K mg "_law_more" s_l_more ["_law_pot_here", "_law_some", "_law_tags"]
  S_l_shifts : Src K mg "_law_shifts" s_l_shifts ["_law_some", "_law_others"]
  S_l_pair_right : Src K mg "_law_pair_right" s_l_pair_right ["_law_some", "_law_others"]
  S_l_heard : Src K mg "_law_heard" s_l_heard ["_law_call"]
  S_l_bad : Src K mg "_law_bad" s_l_bad ["_law_pot_here", "_law_known", "_law_tags"]
  S_l_renamed_right : Src K mg "_law_renamed_right" s_l_renamed_right ["_law_pot_here", "_law_some", "_law_tags"]
  S_l_right : Src K mg "_law_right" s_l_right ["_law_pot_here"]
  S_law : Src K mg "law" s_law ["_law_script"]
  g_Kind : mg "Kind" = some (.ref (kc K))
  cls : Cls K (kc K)
  maker : Mk K (kc K) (He.ma K (kc K) "__init__")
  cr : ∃ mc, ClX.CRead K (kc K) mc ∧ (∃ p, CSta K (kc K) mc "of" p (Kd.st K "of")) ∧ (∃ u, ClX.CVal K (kc K) mc "MOST_ENTRIES" (.int 6) u) ∧ (∃ u, ClX.CVal K (kc K) mc "MOST_REACH" (.int 3) u)
  m_entries : Meth K (kc K) "entries" (He.ma K (kc K) "entries")
  m_names : Meth K (kc K) "names" (He.ma K (kc K) "names")
  m_shifts_in : Meth K (kc K) "shifts_in" (He.ma K (kc K) "shifts_in")
  m_renamed : Meth K (kc K) "renamed" (He.ma K (kc K) "renamed")
  f___le__ : PySem.W.findIn K (.ref (kc K)) "__le__" = some (some (.ref (He.ma K (kc K) "__le__")))
  i___le__ : PySem.W.isFn K (.ref (He.ma K (kc K) "__le__")) = true
  f___ge__ : PySem.W.findIn K (.ref (kc K)) "__ge__" = some (some (.ref (He.ma K (kc K) "__ge__")))
  i___ge__ : PySem.W.isFn K (.ref (He.ma K (kc K) "__ge__")) = true
  f___eq__ : PySem.W.findIn K (.ref (kc K)) "__eq__" = some (some (.ref (He.ma K (kc K) "__eq__")))
  i___eq__ : PySem.W.isFn K (.ref (He.ma K (kc K) "__eq__")) = true
  ne : PySem.W.findIn K (.ref (kc K)) "__ne__" = some (some (.builtin "object.__ne__"))
  mo : PySem.W.mroIn K (kc K) (.type "object") = some true
  no_entries : NoAttr K (kc K) "_entries"
  no_reach : NoAttr K (kc K) "_reach"
  M_of : Ms K "of" "Kind.of" s_Kind_of (Kd.st K "of") ["entries"]
  M_entries : Ms K "entries" "Kind.entries" s_Kind_entries (He.ma K (kc K) "entries") ["self"]
  M_names : Ms K "names" "Kind.names" s_Kind_names (He.ma K (kc K) "names") ["self"]
  M_shifts_in : Ms K "shifts_in" "Kind.shifts_in" s_Kind_shifts_in (He.ma K (kc K) "shifts_in") ["self", "other"]
  M_renamed : Ms K "renamed" "Kind.renamed" s_Kind_renamed (He.ma K (kc K) "renamed") ["self", "names"]
  M___le__ : Ms K "__le__" "Kind.__le__" s_Kind___le (He.ma K (kc K) "__le__") ["self", "other"]
  M___ge__ : Ms K "__ge__" "Kind.__ge__" s_Kind___ge (He.ma K (kc K) "__ge__") ["self", "other"]
  M___eq__ : Ms K "__eq__" "Kind.__eq__" s_Kind___eq (He.ma K (kc K) "__eq__") ["self", "other"]
  M___init__ : ∃ fd, Fun K "__init__" "Kind.__init__" s_Kind___init (He.ma K (kc K) "__init__") fd
  kt : ∀ n ∈ Ty7, PySem.W.kitOne K (.type n) (.ref (kc K)) = some false ∧ PySem.W.kitOne K (.ref (kc K)) (.type n) = some false ∧ PySem.W.notFirst K (kc K) (.type n) = true
  kk : PySem.W.kitOne K (.ref (kc K)) (.ref (kc K)) = some true
  ca : PySem.W.findIn K (.ref (kc K)) "__class__" = some (some (.builtin "object.__class__"))
  cn : PySem.W.specialIn K (.builtin "object.__class__") "__get__" = some (some (.builtin "getset_descriptor.__get__"))
  ct : PySem.W.takesIn K (.builtin "object.__class__") = some true
  e_InvalidRenaming : ∀ P w base, Exv.Ec P w K mg base "InvalidRenaming" (He.ga K "InvalidRenaming") "ValueError.__new__" [.type "ValueError", .type "Exception", .type "BaseException", .type "object"] ["self", "value"] 1 (Exv.mk1 "value")
  g_InvalidRenaming : mg "InvalidRenaming" = some (.ref (He.ga K "InvalidRenaming"))
  g_LineError : mg "LineError" = some (.ref (He.ga K "LineError"))
  no_InvalidRenaming_value : PySem.W.findIn K (.ref (He.ga K "InvalidRenaming")) "value" = some none
  ki_InvalidRenaming : PySem.W.kitOne K (.ref (He.ga K "InvalidRenaming")) (.ref (He.ga K "LineError")) = some true
  kv_InvalidRenaming : PySem.W.kitOne K (.ref (He.ga K "InvalidRenaming")) (.type "ValueError") = some true
  x_rr : PySem.W.exmOne K (.ref (He.ga K "InvalidRenaming")) (.ref (He.ga K "InvalidRenaming")) = some true
end K12

set_option Elab.async false
set_option linter.all false
set_option maxRecDepth 100000
namespace Sgn
open PySem PyProof.Rows
/-- the letters from a to z, as numbers -/
def abc : List Nat := (List.range 26).map (· + 97)
/-- a text's signs by the three questions -/
def signB (z : Str) : Bool := PySem.Txt.isascii z && (PySem.Txt.isalpha z && PySem.Txt.islower z)
theorem one : ∀ c, c < 128 → (Unicode.isAlpha c && !(Unicode.isUpper c || Unicode.isTitle c)) = decide (c ∈ abc) := by decide +kernel
theorem low : ∀ c, c < 128 → c ∈ abc → Unicode.isLower c = true := by decide +kernel
theorem below : ∀ c ∈ abc, c < 128 := by decide +kernel
theorem all_at {z : Str} {f : Nat → Bool} (h : z.cps.all f = true) {c : Nat} (hc : c ∈ z.cps.toList) : f c = true := by
  rw [← Array.all_toList] at h
  exact List.all_eq_true.mp h c hc
theorem signs_all {z : Str} (h : ∀ c ∈ z.cps.toList, c ∈ abc) (n : 1 ≤ z.length) : signB z = true := by
  have a1 : PySem.Txt.isascii z = true := by
    unfold PySem.Txt.isascii
    rw [← Array.all_toList, List.all_eq_true]
    exact fun c hc => decide_eq_true (below c (h c hc))
  have o := fun c (hc : c ∈ z.cps.toList) => (one c (below c (h c hc))).trans (decide_eq_true (h c hc))
  have a2 : PySem.Txt.isalpha z = true := by
    unfold PySem.Txt.isalpha
    rw [Bool.and_eq_true, ← Array.all_toList, List.all_eq_true]
    exact ⟨decide_eq_true (by omega), fun c hc => (Bool.and_eq_true _ _ ▸ o c hc : _ ∧ _).1⟩
  have a3 : PySem.Txt.islower z = true := by
    unfold PySem.Txt.islower
    rw [Bool.and_eq_true, ← Array.any_toList, ← Array.any_toList, List.any_eq_true]
    have hl : 0 < z.cps.toList.length := by rw [Array.length_toList]; exact n
    refine ⟨⟨z.cps.toList[0], List.getElem_mem hl, low _ (below _ (h _ (List.getElem_mem hl))) (h _ (List.getElem_mem hl))⟩, ?_⟩
    rw [Bool.not_eq_true', List.any_eq_false]
    intro c hc q
    have := (Bool.and_eq_true _ _ ▸ o c hc : _ ∧ _).2
    rw [q] at this
    cases this
  unfold signB
  rw [a1, a2, a3]; rfl
theorem signs_in {z : Str} (h : signB z = true) : ∀ c ∈ z.cps.toList, c ∈ abc := by
  intro c hc
  have h1 : PySem.Txt.isascii z = true := (Bool.and_eq_true _ _ ▸ h : _ ∧ _).1
  have h2 : (PySem.Txt.isalpha z && PySem.Txt.islower z) = true := (Bool.and_eq_true _ _ ▸ h : _ ∧ _).2
  have h3 : PySem.Txt.isalpha z = true := (Bool.and_eq_true _ _ ▸ h2 : _ ∧ _).1
  have h4 : PySem.Txt.islower z = true := (Bool.and_eq_true _ _ ▸ h2 : _ ∧ _).2
  have l : c < 128 := of_decide_eq_true (all_at h1 hc)
  have h5 : z.cps.all Unicode.isAlpha = true := (Bool.and_eq_true _ _ ▸ h3 : _ ∧ _).2
  have h6 : (!z.cps.any fun c => Unicode.isUpper c || Unicode.isTitle c) = true := (Bool.and_eq_true _ _ ▸ h4 : _ ∧ _).2
  have h7 : (Unicode.isUpper c || Unicode.isTitle c) = false := by
    rw [Bool.not_eq_true', ← Array.any_toList, List.any_eq_false] at h6
    exact Bool.eq_false_iff.mpr (h6 c hc)
  have := one c l
  rw [all_at h5 hc, h7] at this
  exact of_decide_eq_true this.symm
/-- the same, sign by sign -/
theorem signs_eq {z : Str} (n : 1 ≤ z.length) : signB z = ((List.range z.cps.size).map fun i => decide (z.cps.getD i 0 ∈ abc)).all id := by
  have at' : ∀ i, i < z.cps.size → z.cps.getD i 0 ∈ z.cps.toList := fun i hi => by
    rw [Array.getD_eq_getD_getElem?, Array.getElem?_eq_getElem hi]
    exact Array.getElem_mem_toList hi
  by_cases h : ∀ c ∈ z.cps.toList, c ∈ abc
  · rw [signs_all h n]
    symm
    rw [List.all_eq_true]
    intro b hb
    obtain ⟨i, hi, rfl⟩ := List.mem_map.mp hb
    exact decide_eq_true (h _ (at' i (List.mem_range.mp hi)))
  · have e : signB z = false := Bool.eq_false_iff.mpr fun q => h (signs_in q)
    rw [e]
    symm
    rw [Bool.eq_false_iff]
    intro q
    rw [List.all_eq_true] at q
    refine h fun c hc => ?_
    obtain ⟨i, hi, e⟩ := List.getElem_of_mem hc
    rw [Array.length_toList] at hi
    have := q _ (List.mem_map.mpr ⟨i, List.mem_range.mpr hi, rfl⟩)
    have := of_decide_eq_true this
    rw [Array.getD_eq_getD_getElem?, Array.getElem?_eq_getElem hi] at this
    rw [← e]
    exact this
end Sgn

set_option Elab.async false
set_option linter.all false
set_option maxRecDepth 100000
set_option maxHeartbeats 4000000
namespace K12
open PySem L2 Lay Own
local macro_rules | `(tactic| walk_at "ne") => `(tactic| first | assumption | (apply Ne.symm; assumption) | exact ne_of_none (by walk_at "look") (by assumption) | exact (ne_of_none (by walk_at "look") (by assumption)).symm)
local macro_rules | `(tactic| walk_at "look") => `(tactic| first | assumption | exact upd_same | (refine Eq.trans (upd_ne ?_) ?_; walk_at "ne"; walk_at "look"))
local macro_rules | `(tactic| walk_at "rds") => `(tactic| first | rfl | assumption | walk_at "look" | exact SqL.of (by walk_at "look") | exact SqT.of (by walk_at "look") | exact Or.inl (SqL.of (by walk_at "look")) | exact Or.inl (by assumption) | decide | omega | exact Nat.le_of_ble_eq_true rfl | exact Or.inr ⟨by decide, by decide⟩ | exact Or.inl ⟨by omega, by omega⟩ | exact ⟨by decide, by decide⟩)
local macro_rules | `(tactic| walk_at "rd1") => `(tactic| first | (apply Exists.intro) | (refine And.intro ?_ ?_; walk_at "rds") | (refine Or.inl ?_; apply Exists.intro; refine And.intro ?_ ?_; rfl))
local macro_rules | `(tactic| walk_at "rd") => `(tactic| repeat walk_at "rd1")
def letters : Str := "abcdefghijklmnopqrstuvwxyz"
def lets (z : Str) : List Bool := (List.range z.cps.size).map fun i => decide (z.cps.getD i 0 ∈ letters.cps.toList)
def nameB (z : Str) : Bool := (decide (1 ≤ (z.length : Int)) && decide ((z.length : Int) ≤ 8)) && (lets z).all id
def isI : V → Bool
  | .int _ => true
  | .bl _ => true
  | _ => false
def isB : V → Bool
  | .bl _ => true
  | _ => false
def isS : V → Bool
  | .str _ => true
  | _ => false
def dueI : V → Bool
  | .int _ => true
  | _ => false
def dB : V → Bool
  | .int i => decide (-20 ≤ i) && decide (i ≤ 20)
  | _ => false
def nB : V → Bool
  | .str z => nameB z
  | _ => false
theorem Txt.gs {K : PySem.W.Frag} {mg : Str → Option Value} (T : Txt K mg) : Exv.Gs K := ⟨T.cn, T.ct⟩
/-- the things that may be asked about -/
inductive It (K : PySem.W.Frag) (H : Hp) : V → Prop where
  | int (i : Int) : It K H (.int i)
  | str (z : Str) (h : z.length ≤ 100000) : It K H (.str z)
  | non : It K H .non
  | bl (b : Bool) : It K H (.bl b)
  | lst {a : Addr} {xs : List V} (h : H a = some (.lst xs)) : It K H (.ref a)
  | tup {a : Addr} {xs : List V} (h : H a = some (.tup xs)) : It K H (.ref a)
  | dct {a : Addr} {kvs : List (Key × V)} (h : H a = some (.dK kvs)) : It K H (.ref a)
  | own {a dx : Addr} {fs : List (Str × V)} (h : H a = some (.ins (kc K) dx fs)) : It K H (.ref a)
section
variable {K : PySem.W.Frag} {mg : Str → Option Value} {H H' : Hp} {x : V}
theorem It.same (h : It K H x) (e : L2.Same H H') : It K H' x := by
  cases h with
  | int i => exact .int i
  | str z h => exact .str z h
  | non => exact .non
  | bl b => exact .bl b
  | lst h => exact .lst (e _ _ h)
  | tup h => exact .tup (e _ _ h)
  | dct h => exact .dct (e _ _ h)
  | own h => exact .own (e _ _ h)
theorem own_ty (T : Txt K mg) {a dx : Addr} {fs : List (Str × V)} (h : H a = some (.ins (kc K) dx fs)) : TyX K H (.ref a) (.ref (kc K)) := .base (.ins h T.cls T.ca T.cn T.ct T.mo)
/-- what isinstance says of them -/
theorem It.isi (T : Txt K mg) (h : It K H x) : ∃ t, Exv.TyE K H x t ∧ PySem.W.kitOne K t (.type "int") = some (isI x) ∧ PySem.W.kitOne K t (.type "bool") = some (isB x) ∧ PySem.W.kitOne K t (.type "str") = some (isS x) := by
  cases h with
  | int i => exact ⟨_, .base (.base (.int i)), kit_ty (show kitB "int" "int" = some true from by decide +kernel), kit_ty (show kitB "int" "bool" = some false from by decide +kernel), kit_ty (show kitB "int" "str" = some false from by decide +kernel)⟩
  | str z h => exact ⟨_, .base (.base (.str z)), kit_ty (show kitB "str" "int" = some false from by decide +kernel), kit_ty (show kitB "str" "bool" = some false from by decide +kernel), kit_ty (show kitB "str" "str" = some true from by decide +kernel)⟩
  | non => exact ⟨_, .base (.base .non), kit_ty (show kitB "NoneType" "int" = some false from by decide +kernel), kit_ty (show kitB "NoneType" "bool" = some false from by decide +kernel), kit_ty (show kitB "NoneType" "str" = some false from by decide +kernel)⟩
  | bl b => exact ⟨_, .base (.base (.bl b)), kit_ty (show kitB "bool" "int" = some true from by decide +kernel), kit_ty (show kitB "bool" "bool" = some true from by decide +kernel), kit_ty (show kitB "bool" "str" = some false from by decide +kernel)⟩
  | lst h => exact ⟨_, .base (.base (.lst h)), kit_ty (show kitB "list" "int" = some false from by decide +kernel), kit_ty (show kitB "list" "bool" = some false from by decide +kernel), kit_ty (show kitB "list" "str" = some false from by decide +kernel)⟩
  | tup h => exact ⟨_, .base (.base (.tup h)), kit_ty (show kitB "tuple" "int" = some false from by decide +kernel), kit_ty (show kitB "tuple" "bool" = some false from by decide +kernel), kit_ty (show kitB "tuple" "str" = some false from by decide +kernel)⟩
  | dct h => exact ⟨_, .base (.base (.dK h)), kit_ty (show kitB "dict" "int" = some false from by decide +kernel), kit_ty (show kitB "dict" "bool" = some false from by decide +kernel), kit_ty (show kitB "dict" "str" = some false from by decide +kernel)⟩
  | own h => exact ⟨_, .base (own_ty T h), (T.kt "int" (by simp [Ty7])).2.1, (T.kt "bool" (by simp [Ty7])).2.1, (T.kt "str" (by simp [Ty7])).2.1⟩
theorem tup_isi (h : H (a : Addr) = some (.tup xs)) : ∃ t, Exv.TyE K H (.ref a) t ∧ PySem.W.kitOne K t (.type "tuple") = some true := ⟨_, .base (.base (.tup h)), kit_ty (show kitB "tuple" "tuple" = some true from by decide +kernel)⟩
/-- no tuple -/
theorem It.notT (T : Txt K mg) (h : It K H x) (n : ∀ a xs, x = .ref a → H a = some (.tup xs) → False) : ∃ t, Exv.TyE K H x t ∧ PySem.W.kitOne K t (.type "tuple") = some false := by
  cases h with
  | int i => exact ⟨_, .base (.base (.int i)), kit_ty (show kitB "int" "tuple" = some false from by decide +kernel)⟩
  | str z h => exact ⟨_, .base (.base (.str z)), kit_ty (show kitB "str" "tuple" = some false from by decide +kernel)⟩
  | non => exact ⟨_, .base (.base .non), kit_ty (show kitB "NoneType" "tuple" = some false from by decide +kernel)⟩
  | bl b => exact ⟨_, .base (.base (.bl b)), kit_ty (show kitB "bool" "tuple" = some false from by decide +kernel)⟩
  | lst h => exact ⟨_, .base (.base (.lst h)), kit_ty (show kitB "list" "tuple" = some false from by decide +kernel)⟩
  | tup h => exact (n _ _ rfl h).elim
  | dct h => exact ⟨_, .base (.base (.dK h)), kit_ty (show kitB "dict" "tuple" = some false from by decide +kernel)⟩
  | own h => exact ⟨_, .base (own_ty T h), (T.kt "tuple" (by simp [Ty7])).2.1⟩
end
section
variable {P : Program} {w : World} {K : PySem.W.Frag} {mg : Str → Option Value} {base : Heap}
def spIsI (K : PySem.W.Frag) : Sp := fun vs H Q _ => ∃ x, vs = [x] ∧ It K H x ∧ Q (.bl (dueI x)) H
def spIsN (K : PySem.W.Frag) : Sp := fun vs H Q _ => ∃ x, vs = [x] ∧ It K H x ∧ ∀ H', L2.Same H H' → Q (.bl (nB x)) H'
theorem d_is_integer (T : Txt K mg) : Df P w K mg base 1 "is_integer" ["value"] (spIsI K) := by
  refine T.S_is_integer.by sc_is_integer (fun vs H Q E h => ?_) (fun f cdv A outer s H vs Q E hr hgd h => ?_)
  · obtain ⟨x, rfl, _⟩ := h; rfl
  · obtain ⟨x, rfl, hx, k⟩ := h
    refine ⟨_, (pss_one (ps_ret (pe_and (pe_callB (Exv.call_isE T.gs) (by rfl) T.n_isinstance (by decide +kernel) (pa_cons (pv 0) (pa_cons (pe_bltn (v := .ty "int") (u := .type "int") (by rfl) T.n_int (by decide +kernel) rfl) pa_nil))) (pe_one (pe_not (pe_callB (Exv.call_isE T.gs) (by rfl) T.n_isinstance (by decide +kernel) (pa_cons (pv 0) (pa_cons (pe_bltn (v := .ty "bool") (u := .type "bool") (by rfl) T.n_bool (by decide +kernel) rfl) pa_nil)))))))), ?_⟩
    obtain ⟨t, ty, k1, k2, k3⟩ := hx.isi T
    refine ⟨_, rfl, x, .ty "int", t, .type "int", _, rfl, .ty _, ty, k1, _, rfl, ?_⟩
    refine ite2 (fun c => ?_) (fun c => ?_)
    · refine ⟨_, rfl, x, .ty "bool", t, .type "bool", _, rfl, .ty _, ty, k2, _, rfl, ?_⟩
      have e : (!isB x) = dueI x := by cases hx <;> first | rfl | cases c
      show Q (.bl (!isB x)) H
      rw [e]; exact k
    · have e : false = dueI x := by cases hx <;> first | rfl | exact absurd rfl c
      show Q (.bl false) H
      rw [e]; exact k
theorem d_is_name (T : Txt K mg) : Df P w K mg base 1 "is_name" ["value"] (spIsN K) := by
  refine T.S_is_name.by sc_is_name (fun vs H Q E h => ?_) (fun f cdv A outer s H vs Q E hr hgd h => ?_)
  · obtain ⟨x, rfl, _⟩ := h; rfl
  · obtain ⟨x, rfl, hx, k⟩ := h
    refine ⟨_, (pss_cons (ps_if (PW.pt (pw_or (pt_not (pt_val (pe_callB (Exv.call_isE T.gs) (by rfl) T.n_isinstance (by decide +kernel) (pa_cons (pv 0) (pa_cons (pe_bltn (v := .ty "str") (u := .type "str") (by rfl) T.n_str (by decide +kernel) rfl) pa_nil))))) (pw_or (pt_cmpR op_lt (pe_callB call_len_str (by rfl) T.n_len PySem.boot_len (pa_cons (pv 0) pa_nil)) pe_int (nomark _)) (pw_or1 (pt_cmpR op_gt (pe_callB call_len_str (by rfl) T.n_len PySem.boot_len (pa_cons (pv 0) pa_nil)) (pe_con1 T.c_MOST_LETTERS) (nomark _)))))) (pss_one (ps_ret pe_bl)) pss_nil)
      (pss_one (ps_ret (pe_and (pe_bm0 PySem.F.plainAttrs_str PySem.F.slot_str_isascii PySem.F.type_str_isascii mt_isascii (pv 0)) (pe_and (pe_bm0 PySem.F.plainAttrs_str PySem.F.slot_str_isalpha PySem.F.type_str_isalpha mt_isalpha (pv 0)) (pe_one (pe_bm0 PySem.F.plainAttrs_str PySem.F.slot_str_islower PySem.F.type_str_islower mt_islower (pv 0)))))))), ?_⟩
    obtain ⟨t, ty, k1, k2, k3⟩ := hx.isi T
    refine ⟨_, rfl, x, .ty "str", t, .type "str", _, rfl, .ty _, ty, k3, _, rfl, ?_⟩
    have no : isS x = false → nB x = false := fun e => by cases hx <;> first | rfl | cases e
    by_cases hs : isS x = true
    · rw [hs]
      cases hx with
      | str z h10 =>
        refine iteF ?_
        have zl : z.length ≤ sizeLine := Nat.le_trans h10 (by decide)
        refine ⟨_, rfl, z, rfl, zl, _, _, rfl, rfl, _, rfl, ?_⟩
        refine ite2 (fun c => ?_) (fun c => ?_)
        · refine iteT ?_
          have c1 := of_decide_eq_true c
          have e : nB (.str z) = false := by
            show nameB z = false
            unfold nameB
            rw [decide_eq_false (show ¬ 1 ≤ (z.length : Int) by omega)]
            rfl
          have q := k H (L2.Same.refl H)
          rw [e] at q
          exact q
        · have c1 : ¬ ((z.length : Int) < 1) := fun z => c (decide_eq_true z)
          refine ⟨_, rfl, z, rfl, zl, _, _, rfl, rfl, _, rfl, ?_⟩
          refine ite2 (fun c => ?_) (fun c => ?_)
          · have c2 := of_decide_eq_true c
            have e : nB (.str z) = false := by
              show nameB z = false
              unfold nameB
              rw [decide_eq_false (show ¬ (z.length : Int) ≤ 8 by omega), Bool.and_false]
              rfl
            have q := k H (L2.Same.refl H)
            rw [e] at q
            exact q
          · have c2 : ¬ ((8 : Int) < (z.length : Int)) := fun z => c (decide_eq_true z)
            have e : nB (.str z) = Sgn.signB z := by
              rw [Sgn.signs_eq (by omega)]
              show nameB z = _
              unfold nameB
              rw [decide_eq_true (show 1 ≤ (z.length : Int) by omega), decide_eq_true (show (z.length : Int) ≤ 8 by omega)]
              rfl
            have q := k H (L2.Same.refl H)
            rw [e] at q
            unfold Sgn.signB at q
            refine ⟨_, rfl, rfl, z, rfl, rfl, trivial, _, rfl, ?_⟩
            cases a1 : PySem.Txt.isascii z with
            | false => rw [a1] at q; exact iteF q
            | true =>
              rw [a1] at q
              refine iteT ⟨_, rfl, rfl, z, rfl, rfl, trivial, _, rfl, ?_⟩
              cases a2 : PySem.Txt.isalpha z with
              | false => rw [a2] at q; exact iteF q
              | true =>
                rw [a2] at q
                exact iteT ⟨_, rfl, rfl, z, rfl, rfl, trivial, q⟩
      | _ => cases hs
    · have hs' : isS x = false := Bool.eq_false_iff.mpr hs
      rw [hs']
      refine iteT (iteT ?_)
      have q := k H (L2.Same.refl H)
      rw [no hs'] at q
      exact q
def spDist (K : PySem.W.Frag) : Sp := fun vs H Q _ => ∃ x, vs = [x] ∧ It K H x ∧ Q (.bl (dB x)) H
theorem d_is_distance (T : Txt K mg) : Df P w K mg base 2 "is_distance" ["value"] (spDist K) := by
  have D_is_integer := d_is_integer (P := P) (w := w) (base := base) T
  refine T.S_is_distance.by sc_is_distance (fun vs H Q E h => ?_) (fun f cdv A outer s H vs Q E hr hgd h => ?_)
  · obtain ⟨x, rfl, _⟩ := h; rfl
  · obtain ⟨x, rfl, hx, k⟩ := h
    refine ⟨_, (pss_one (ps_ret (pe_and (pe_own D_is_integer (hr.mono (by first | decide | omega)) hgd (pa_cons (pv 0) pa_nil)) (pe_one (pe_chain op_le op_le (pe_un un_neg (pe_con1 T.c_FARTHEST)) (pv 0) (pe_con1 T.c_FARTHEST)))))), ?_⟩
    refine ⟨_, rfl, x, rfl, hx, _, rfl, ?_⟩
    refine ite2 (fun c => ?_) (fun c => ?_)
    · cases hx with
      | int i =>
        refine ⟨_, rfl, _, rfl, _, _, rfl, rfl, _, rfl, ?_⟩
        refine ite2 (fun c1 => ?_) (fun c1 => ?_)
        · refine ⟨_, _, rfl, rfl, ?_⟩
          have e : dB (.int i) = decide (i ≤ 20) := by
            show (decide (-20 ≤ i) && decide (i ≤ 20)) = _
            rw [c1]; rfl
          rw [e] at k; exact k
        · have e : dB (.int i) = false := by
            show (decide (-20 ≤ i) && decide (i ≤ 20)) = _
            rw [Bool.eq_false_iff.mpr c1]; rfl
          rw [e] at k; exact k
      | _ => cases c
    · have e : false = dB x := by cases hx <;> first | rfl | exact absurd rfl c
      show Q (.bl false) H
      rw [e]; exact k
end
end K12

set_option Elab.async false
set_option linter.all false
set_option maxRecDepth 100000
set_option maxHeartbeats 4000000
namespace Own
open PySem L2 Lay SrtO
theorem cut_from {xs : List V} {i : Nat} (h : i ≤ xs.length) : cutV xs (some (i : Int)) none = xs.drop i := by
  unfold cutV
  rw [HT.sIx_nat, HT.sIx_none, Nat.min_eq_left h]
  exact List.take_of_length_le (by rw [List.length_drop]; omega)
theorem cut_to {xs : List V} {i : Nat} (h : i ≤ xs.length) : cutV xs none (some (i : Int)) = xs.take i := by
  unfold cutV
  rw [HT.sIx_nat, HT.sIx_none, Nat.min_eq_left h]
  simp
section
variable {α : Type} {lt : α → α → Bool} {xs ys out : List α} {i j : Nat} {x y : α}
/-- what two sorted lists have put out -/
structure MI (lt : α → α → Bool) (xs ys : List α) (i j : Nat) (out : List α) : Prop where
  perm : out.Perm (xs.take i ++ ys.take j)
  sd : Sd lt out
  ax : ∀ z ∈ out, ∀ x ∈ xs.drop i, lt x z = false
  ay : ∀ z ∈ out, ∀ y ∈ ys.drop j, lt y z = false
theorem MI.start : MI lt xs ys 0 0 [] := ⟨by simp, List.Pairwise.nil, by simp, by simp⟩
theorem sd_drop (h : Sd lt xs) (e : xs[i]? = some x) : ∀ z ∈ xs.drop (i + 1), lt z x = false := by
  have hd : xs.drop i = x :: xs.drop (i + 1) := by
    have hi := (List.getElem?_eq_some_iff.mp e).1
    rw [List.drop_eq_getElem_cons hi]
    congr 1
    exact (List.getElem?_eq_some_iff.mp e).2
  have s : Sd lt (xs.drop i) := List.Pairwise.sublist (List.drop_sublist _ _) h
  rw [hd] at s
  exact (List.pairwise_cons.mp s).1
theorem drop_at (e : xs[i]? = some x) : xs.drop i = x :: xs.drop (i + 1) := by
  have hi := (List.getElem?_eq_some_iff.mp e).1
  rw [List.drop_eq_getElem_cons hi]
  congr 1
  exact (List.getElem?_eq_some_iff.mp e).2
theorem take_at (e : xs[i]? = some x) : xs.take (i + 1) = xs.take i ++ [x] := by rw [List.take_add_one, e]; rfl
theorem MI.b (O : Swo lt) (m : MI lt xs ys i j out) (hx : Sd lt xs) (hy : Sd lt ys) (ex : xs[i]? = some x) (ey : ys[j]? = some y) (h : lt y x = true) : MI lt xs ys i (j + 1) (out ++ [y]) := by
  have hd := drop_at ey
  refine ⟨?_, ?_, fun z hz x' hx' => ?_, fun z hz y' hy' => ?_⟩
  · rw [take_at ey, ← List.append_assoc]
    exact m.perm.append_right _
  · refine List.pairwise_append.mpr ⟨m.sd, List.pairwise_singleton _ _, fun a ha b hb => ?_⟩
    obtain rfl := List.mem_singleton.mp hb
    exact m.ay a ha b (by rw [hd]; exact List.mem_cons_self ..)
  · rcases List.mem_append.mp hz with q | q
    · exact m.ax z q x' hx'
    · obtain rfl := List.mem_singleton.mp q
      rw [drop_at ex] at hx'
      rcases List.mem_cons.mp hx' with r | r
      · subst r; exact O.asym _ _ h
      · exact O.tr z x x' (O.asym _ _ h) (sd_drop hx ex x' r)
  · rcases List.mem_append.mp hz with q | q
    · exact m.ay z q y' (by rw [hd]; exact List.mem_cons_of_mem _ hy')
    · obtain rfl := List.mem_singleton.mp q
      exact sd_drop hy ey y' hy'
theorem MI.a (O : Swo lt) (m : MI lt xs ys i j out) (hx : Sd lt xs) (hy : Sd lt ys) (ex : xs[i]? = some x) (ey : ys[j]? = some y) (h : lt y x = false) : MI lt xs ys (i + 1) j (out ++ [x]) := by
  have hd := drop_at ex
  refine ⟨?_, ?_, fun z hz x' hx' => ?_, fun z hz y' hy' => ?_⟩
  · rw [take_at ex]
    refine (m.perm.append_right _).trans ?_
    rw [List.append_assoc, List.append_assoc]
    exact List.Perm.append_left _ List.perm_append_comm
  · refine List.pairwise_append.mpr ⟨m.sd, List.pairwise_singleton _ _, fun a ha b hb => ?_⟩
    obtain rfl := List.mem_singleton.mp hb
    exact m.ax a ha b (by rw [hd]; exact List.mem_cons_self ..)
  · rcases List.mem_append.mp hz with q | q
    · exact m.ax z q x' (by rw [hd]; exact List.mem_cons_of_mem _ hx')
    · obtain rfl := List.mem_singleton.mp q
      exact sd_drop hx ex x' hx'
  · rcases List.mem_append.mp hz with q | q
    · exact m.ay z q y' hy'
    · obtain rfl := List.mem_singleton.mp q
      rw [drop_at ey] at hy'
      rcases List.mem_cons.mp hy' with r | r
      · subst r; exact h
      · exact O.tr z y y' h (sd_drop hy ey y' r)
theorem MI.fin (m : MI lt xs ys i j out) (hx : Sd lt xs) (hy : Sd lt ys) (h : xs.length ≤ i ∨ ys.length ≤ j) : (out ++ xs.drop i ++ ys.drop j).Perm (xs ++ ys) ∧ Sd lt (out ++ xs.drop i ++ ys.drop j) := by
  constructor
  · refine ((m.perm.append_right _).append_right _).trans ?_
    have e : ((xs.take i ++ ys.take j) ++ xs.drop i) ++ ys.drop j = xs.take i ++ ((ys.take j ++ xs.drop i) ++ ys.drop j) := by simp
    rw [e]
    refine (List.Perm.append_left _ (List.perm_append_comm.append_right _)).trans ?_
    have e2 : xs.take i ++ ((xs.drop i ++ ys.take j) ++ ys.drop j) = xs ++ ys := by
      rw [List.append_assoc, ← List.append_assoc, List.take_append_drop, List.take_append_drop]
    rw [e2]
  · have s1 : Sd lt (xs.drop i) := List.Pairwise.sublist (List.drop_sublist _ _) hx
    have s2 : Sd lt (ys.drop j) := List.Pairwise.sublist (List.drop_sublist _ _) hy
    rcases h with h | h
    · rw [List.drop_of_length_le h, List.append_nil]
      exact List.pairwise_append.mpr ⟨m.sd, s2, m.ay⟩
    · rw [List.drop_of_length_le h, List.append_nil]
      exact List.pairwise_append.mpr ⟨m.sd, s1, m.ax⟩
end
end Own

set_option Elab.async false
set_option linter.all false
set_option maxRecDepth 100000
set_option maxHeartbeats 4000000
namespace K12
open PySem L2 Lay Own SrtO
local macro_rules | `(tactic| walk_at "ne") => `(tactic| first | assumption | (apply Ne.symm; assumption) | exact ne_of_none (by walk_at "look") (by assumption) | exact (ne_of_none (by walk_at "look") (by assumption)).symm)
local macro_rules | `(tactic| walk_at "look") => `(tactic| first | assumption | exact upd_same | (refine Eq.trans (upd_ne ?_) ?_; walk_at "ne"; walk_at "look"))
local macro_rules | `(tactic| walk_at "rds") => `(tactic| first | rfl | assumption | walk_at "look" | exact SqL.of (by walk_at "look") | exact SqT.of (by walk_at "look") | exact Or.inl (SqL.of (by walk_at "look")) | exact Or.inl (by assumption) | decide | omega | exact Nat.le_of_ble_eq_true rfl | exact Or.inr ⟨by decide, by decide⟩ | exact Or.inl ⟨by omega, by omega⟩ | exact ⟨by decide, by decide⟩)
local macro_rules | `(tactic| walk_at "rd1") => `(tactic| first | (apply Exists.intro) | (refine And.intro ?_ ?_; walk_at "rds") | (refine Or.inl ?_; apply Exists.intro; refine And.intro ?_ ?_; rfl))
local macro_rules | `(tactic| walk_at "rd") => `(tactic| repeat walk_at "rd1")
section
variable {P : Program} {w : World} {K : PySem.W.Frag} {mg : Str → Option Value} {base : Heap}
theorem ty_lst {K : PySem.W.Frag} {H : Hp} {l : Addr} {xs : List V} (h : H l = some (.lst xs)) : tyV K "list" (.ref l) H := .inl ⟨rfl, xs, SqL.of h⟩
/-! is_entry -/
def spEnt (K : PySem.W.Frag) : Sp := fun vs H Q _ => ∃ x, vs = [x] ∧ It K H x ∧
  (((∀ a xs, x = .ref a → H a = some (.tup xs) → xs.length ≠ 3) ∧ ∀ H', L2.Same H H' → Q (.bl false) H') ∨
   ∃ a x1 x2 x3, x = .ref a ∧ H a = some (.tup [x1, x2, x3]) ∧ It K H x1 ∧ It K H x2 ∧ It K H x3 ∧ ∀ H', L2.Same H H' → Q (.bl (dB x1 && (dB x2 && nB x3))) H')
theorem d_is_entry (T : Txt K mg) : Df P w K mg base 3 "is_entry" ["value"] (spEnt K) := by
  have D_is_distance := d_is_distance (P := P) (w := w) (base := base) T
  have D_is_name := d_is_name (P := P) (w := w) (base := base) T
  refine T.S_is_entry.by sc_is_entry (fun vs H Q E h => ?_) (fun f cdv A outer s H vs Q E hr hgd h => ?_)
  · obtain ⟨x, rfl, _⟩ := h; rfl
  · obtain ⟨x, rfl, hx, h⟩ := h
    refine ⟨_, (pss_cons (ps_if (PW.pt (pw_or (pt_not (pt_val (pe_callB (Exv.call_isE T.gs) (by rfl) T.n_isinstance (by decide +kernel) (pa_cons (pv 0) (pa_cons (pe_bltn (v := .ty "tuple") (u := .type "tuple") (by rfl) T.n_tuple (by decide +kernel) rfl) pa_nil))))) (pw_or1 (pt_cmpR op_ne (pe_callB call_len_seq (by rfl) T.n_len PySem.boot_len (pa_cons (pv 0) pa_nil)) pe_int (nomark _))))) (pss_one (ps_ret pe_bl)) pss_nil)
      (pss_cons (ps_asg (pv 0) (pg_tup rfl (pgs_cons (pg_name (i := 1) sc_is_entry.nd rfl (by first | exact Or.inl rfl | exact Or.inr rfl)) (pgs_cons (pg_name (i := 2) sc_is_entry.nd rfl (by first | exact Or.inl rfl | exact Or.inr rfl)) (pgs_cons (pg_name (i := 3) sc_is_entry.nd rfl (by first | exact Or.inl rfl | exact Or.inr rfl)) pgs_nil)))))
      (pss_one (ps_ret (pe_and (pe_own D_is_distance (hr.mono (by first | decide | omega)) hgd (pa_cons (pv 1) pa_nil)) (pe_and (pe_own D_is_distance (hr.mono (by first | decide | omega)) hgd (pa_cons (pv 2) pa_nil)) (pe_one (pe_own D_is_name (hr.mono (by first | decide | omega)) hgd (pa_cons (pv 3) pa_nil))))))))), ?_⟩
    by_cases ht : ∃ a xs, x = .ref a ∧ H a = some (.tup xs)
    · obtain ⟨a, xs, rfl, ha⟩ := ht
      obtain ⟨t, ty, kt⟩ := tup_isi (K := K) ha
      refine ⟨_, rfl, _, .ty "tuple", t, .type "tuple", _, rfl, .ty _, ty, kt, _, rfl, ?_⟩
      refine iteF ?_
      refine ⟨_, rfl, a, xs, rfl, .inr (SqT.of ha), ?_⟩
      walk_at "rd"
      rcases h with ⟨n3, k⟩ | ⟨a', x1, x2, x3, e, ha', h1, h2, h3, k⟩
      · have : (xs.length : Int) ≠ 3 := fun z => n3 a xs rfl ha (by omega)
        have e : decide (V.int (xs.length : Int) = V.int 3) = false := decide_eq_false fun z => this (V.int.inj z)
        rw [e]
        refine iteT ?_
        exact k _ (L2.Same.refl H)
      · cases e
        rw [ha] at ha'
        cases ha'
        refine iteF ?_
        refine ⟨_, rfl, a, _, rfl, SqT.of ha, rfl, ?_⟩
        walk_at "rd"
        refine ite2 (fun c => ?_) (fun c => ?_)
        · rw [c] at k
          walk_at "rd"
          refine ite2 (fun c => ?_) (fun c => ?_)
          · rw [c] at k
            walk_at "rd"
            exact fun H' s => k H' s
          · rw [Bool.eq_false_iff.mpr c] at k
            exact k H (L2.Same.refl H)
        · rw [Bool.eq_false_iff.mpr c] at k
          exact k H (L2.Same.refl H)
    · obtain ⟨t, ty, kt⟩ := hx.notT T fun a xs e ha => ht ⟨a, xs, e, ha⟩
      refine ⟨_, rfl, _, .ty "tuple", t, .type "tuple", _, rfl, .ty _, ty, kt, _, rfl, ?_⟩
      refine iteT (iteT ?_)
      rcases h with ⟨_, k⟩ | ⟨a', x1, x2, x3, e, ha', _⟩
      · exact k H (L2.Same.refl H)
      · exact (ht ⟨_, _, e, ha'⟩).elim
/-! merged -/
def LtOk (H : Hp) (lt : V → V → Bool) (xs : List V) : Prop := ∀ H', L2.Same H H' → ∀ x ∈ xs, ∀ y ∈ xs, Cm H' x y (lt x y)
def spMerged (K : PySem.W.Frag) : Sp := fun vs H Q _ => ∃ (a b : Addr) (xs ys : List V) (lt : V → V → Bool), vs = [.ref a, .ref b] ∧ SqL K H a xs ∧ SqL K H b ys ∧ Swo lt ∧ LtOk H lt (xs ++ ys) ∧ Sd lt xs ∧ Sd lt ys ∧ xs.length ≤ 64 ∧ ys.length ≤ 64 ∧
  ∀ zs p H', L2.Same H H' → H p = none → H' p = some (.lst zs) → zs.Perm (xs ++ ys) → Sd lt zs → Q (.ref p) H'
theorem d_merged (T : Txt K mg) : Df P w K mg base 1 "merged" ["one", "other"] (spMerged K) := by
  refine T.S_merged.by sc_merged (fun vs H Q E h => ?_) (fun f cdv A outer s H vs Q E hr hgd h => ?_)
  · obtain ⟨a, b, xs, ys, lt, rfl, _⟩ := h; rfl
  · obtain ⟨a, b, xs, ys, lt, rfl, ha, hb, O, ok, sx, sy, lx, ly, k⟩ := h
    refine ⟨_, (pss_cons (ps_set (i := 2) sc_merged.nd rfl (by first | exact Or.inl rfl | exact Or.inr rfl) (pe_lst pa_nil))
      (pss_cons (ps_asg2 pe_int (pg_name (i := 3) sc_merged.nd rfl (by first | exact Or.inl rfl | exact Or.inr rfl)) (pg_name (i := 4) sc_merged.nd rfl (by first | exact Or.inl rfl | exact Or.inr rfl)))
      (pss_cons (ps_while PassesOwn.never (PW.pt (pw_and (pt_cmpR op_lt (pv 3) (pe_callB call_len_seq (by rfl) T.n_len PySem.boot_len (pa_cons (pv 0) pa_nil)) (nomark _)) (pw_and1 (pt_cmpR op_lt (pv 4) (pe_callB call_len_seq (by rfl) T.n_len PySem.boot_len (pa_cons (pv 1) pa_nil)) (nomark _))))) (pss_one (ps_if (pt_cmpR (op_ltV hr.units0) (pe_ix ix_list (pv 1) (pv 4) (fun _ _ => rfl)) (pe_ix ix_list (pv 0) (pv 3) (fun _ _ => rfl)) (nomark _)) (pss_cons (ps_expr (pe_bm PySem.F.plainAttrs_list PySem.F.slot_list_append PySem.F.type_list_append mt_append (pv 2) (pa_cons (pe_ix ix_list (pv 1) (pv 4) (fun _ _ => rfl)) pa_nil)))
      (pss_one (ps_set (i := 4) sc_merged.nd rfl (by first | exact Or.inl rfl | exact Or.inr rfl) (pe_op op_add (pv 4) pe_int)))) (pss_cons (ps_expr (pe_bm PySem.F.plainAttrs_list PySem.F.slot_list_append PySem.F.type_list_append mt_append (pv 2) (pa_cons (pe_ix ix_list (pv 0) (pv 3) (fun _ _ => rfl)) pa_nil)))
      (pss_one (ps_set (i := 3) sc_merged.nd rfl (by first | exact Or.inl rfl | exact Or.inr rfl) (pe_op op_add (pv 3) pe_int)))))))
      (pss_one (ps_ret (pe_op op_cat (pe_op op_cat (pv 2) (pe_callTy call_list_of (by rfl) T.n_list (by decide +kernel) (pa_cons (pe_slice sl_list (pv 0) (po_some (pv 3)) po_none) pa_nil))) (pe_callTy call_list_of (by rfl) T.n_list (by decide +kernel) (pa_cons (pe_slice sl_list (pv 1) (po_some (pv 4)) po_none) pa_nil)))))))), ?_⟩
    walk_at "rd"
    intro o no
    refine ⟨fun m σ H' => ∃ (i j : Nat) (out : List V), σ = [some (.ref a), some (.ref b), some (.ref o), some (.int i), some (.int j)] ∧ m = (xs.length - i) + (ys.length - j) ∧ i ≤ xs.length ∧ j ≤ ys.length ∧ out.length = i + j ∧ L2.Same H H' ∧ H' o = some (.lst out) ∧ MI lt xs ys i j out,
      ⟨_, 0, 0, [], rfl, rfl, Nat.zero_le _, Nat.zero_le _, rfl, Same.new no, upd_same, .start⟩, ?_⟩
    rintro m σ H1 ⟨i, j, out, rfl, rfl, hi, hj, lo, s1, ho, mi⟩
    have fin : xs.length ≤ i ∨ ys.length ≤ j → ∀ p H', L2.Same H1 H' → H1 p = none → H' p = some (.lst (out ++ xs.drop i ++ ys.drop j)) → Q (.ref p) H' := fun c p H' s np hp => by
      obtain ⟨q1, q2⟩ := mi.fin sx sy c
      refine k _ p H' (s1.trans s) ?_ hp q1 q2
      cases e : H p with
      | none => rfl
      | some u => rw [s1 _ _ e] at np; cases np
    have ha1 := s1.seq ha
    have hb1 := s1.seq hb
    walk_at "rd"
    refine ite2 (fun c => ?_) (fun c => ?_)
    · have c1 := of_decide_eq_true c
      walk_at "rd"
      refine ite2 (fun c => ?_) (fun c => ?_)
      · have c2 := of_decide_eq_true c
        have hi' : i < xs.length := by omega
        have hj' : j < ys.length := by omega
        have ex := List.getElem?_eq_getElem hi'
        have ey := List.getElem?_eq_getElem hj'
        refine ⟨fun σ H' => ∃ (i' j' : Nat) (out' : List V), σ = [some (.ref a), some (.ref b), some (.ref o), some (.int i'), some (.int j')] ∧ (xs.length - i') + (ys.length - j') < (xs.length - i) + (ys.length - j) ∧ i' ≤ xs.length ∧ j' ≤ ys.length ∧ out'.length = i' + j' ∧ L2.Same H H' ∧ H' o = some (.lst out') ∧ MI lt xs ys i' j' out', ?_, ?_⟩
        · rintro σ' H' ⟨i', j', out', rfl, hm, q⟩
          exact ⟨_, hm, i', j', out', rfl, rfl, q⟩
        have mx : xs[i] ∈ xs ++ ys := List.mem_append_left _ (List.getElem_mem hi')
        have my : ys[j] ∈ xs ++ ys := List.mem_append_right _ (List.getElem_mem hj')
        have cm := ok H1 s1 _ my _ mx
        refine ⟨_, rfl, _, rfl, b, ys, (j : Int), ys[j], rfl, rfl, hb1, atI_nat ey, _, rfl, _, rfl, a, xs, (i : Int), xs[i], rfl, rfl, ha1, atI_nat ex, _, cm, _, rfl, ?_⟩
        refine ite2 (fun cc => ?_) (fun cc => ?_)
        · refine ⟨_, rfl, ty_lst ho, _, rfl, _, rfl, b, ys, (j : Int), ys[j], rfl, rfl, hb1, atI_nat ey, ?_⟩
          refine ⟨o, out, _, rfl, rfl, ho, Nat.lt_of_le_of_lt (m := 128) (by omega) (by decide), ?_⟩
          refine ⟨_, rfl, _, _, rfl, rfl, ?_⟩
          refine ⟨i, j + 1, _, rfl, by omega, hi, by omega, by rw [List.length_append, lo]; rfl, Same.mut s1 no, upd_same, mi.b O sx sy ex ey cc⟩
        · refine ⟨_, rfl, ty_lst ho, _, rfl, _, rfl, a, xs, (i : Int), xs[i], rfl, rfl, ha1, atI_nat ex, ?_⟩
          refine ⟨o, out, _, rfl, rfl, ho, Nat.lt_of_le_of_lt (m := 128) (by omega) (by decide), ?_⟩
          refine ⟨_, rfl, _, _, rfl, rfl, ?_⟩
          refine ⟨i + 1, j, _, rfl, by omega, by omega, hj, by rw [List.length_append, lo]; show i + j + 1 = _; omega, Same.mut s1 no, upd_same, mi.a O sx sy ex ey (Bool.eq_false_iff.mpr cc)⟩
      · have c2 : ¬ ((j : Int) < (ys.length : Int)) := fun z => c (decide_eq_true z)
        walk_at "rd"
        intro p1 n1
        rw [cut_from hi]
        have t1 := Same.new (o := .lst (xs.drop i)) n1
        walk_at "rd"
        intro p2 n2
        have t2 := Same.new (o := .lst (xs.drop i)) n2
        refine ⟨o, p2, out, xs.drop i, rfl, rfl, t2 _ _ (t1 _ _ ho), upd_same, Nat.le_trans (m := 192) (by rw [List.length_drop]; omega) (by decide), fun p3 n3 => ?_⟩
        have t3 := Same.new (o := .lst (out ++ xs.drop i)) n3
        have hb3 := t3.seq (t2.seq (t1.seq hb1))
        walk_at "rd"
        intro p4 n4
        rw [cut_from hj]
        have t4 := Same.new (o := .lst (ys.drop j)) n4
        walk_at "rd"
        intro p5 n5
        have t5 := Same.new (o := .lst (ys.drop j)) n5
        refine ⟨p3, p5, out ++ xs.drop i, ys.drop j, rfl, rfl, t5 _ _ (t4 _ _ upd_same), upd_same, Nat.le_trans (m := 256) (by rw [List.length_append, List.length_drop, List.length_drop]; omega) (by decide), fun p6 n6 => ?_⟩
        have tt := t1.trans (t2.trans (t3.trans (t4.trans t5)))
        refine fin (.inr (by omega)) p6 _ (tt.trans (Same.new n6)) ?_ upd_same
        cases e : H1 p6 with
        | none => rfl
        | some u => rw [tt _ _ e] at n6; cases n6
    · have c1 : ¬ ((i : Int) < (xs.length : Int)) := fun z => c (decide_eq_true z)
      walk_at "rd"
      intro p1 n1
      rw [cut_from hi]
      have t1 := Same.new (o := .lst (xs.drop i)) n1
      walk_at "rd"
      intro p2 n2
      have t2 := Same.new (o := .lst (xs.drop i)) n2
      refine ⟨o, p2, out, xs.drop i, rfl, rfl, t2 _ _ (t1 _ _ ho), upd_same, Nat.le_trans (m := 192) (by rw [List.length_drop]; omega) (by decide), fun p3 n3 => ?_⟩
      have t3 := Same.new (o := .lst (out ++ xs.drop i)) n3
      have hb3 := t3.seq (t2.seq (t1.seq hb1))
      walk_at "rd"
      intro p4 n4
      rw [cut_from hj]
      have t4 := Same.new (o := .lst (ys.drop j)) n4
      walk_at "rd"
      intro p5 n5
      have t5 := Same.new (o := .lst (ys.drop j)) n5
      refine ⟨p3, p5, out ++ xs.drop i, ys.drop j, rfl, rfl, t5 _ _ (t4 _ _ upd_same), upd_same, Nat.le_trans (m := 256) (by rw [List.length_append, List.length_drop, List.length_drop]; omega) (by decide), fun p6 n6 => ?_⟩
      have tt := t1.trans (t2.trans (t3.trans (t4.trans t5)))
      refine fin (.inl (by omega)) p6 _ (tt.trans (Same.new n6)) ?_ upd_same
      cases e : H1 p6 with
      | none => rfl
      | some u => rw [tt _ _ e] at n6; cases n6
end
end K12

set_option Elab.async false
set_option linter.all false
set_option maxRecDepth 100000
set_option maxHeartbeats 4000000
namespace Own
open PySem L2 Lay
theorem pg_tupK {X : Cx} {es : List Expr} {k : Nat} {t : TGs} {n : Nat} {K : PySem.W.Frag} {pos : Pos} (hK : X.K = K) (hc : X.calm = true) (h : PGs X es t)
    (hn : (assignEach es X.env).length = n := by rfl) (hst : (assignEach es X.env).findIdx? (·.1) = none := by rfl) : PG X (.Tuple es k pos) (gTup K n t) := hK ▸ pg_tup hc h hn hst
/-- a comprehension whose elements stand on what it made, told by their places -/
theorem lc_depI {J : It} {n : Nat} {G : Hp → Prop} {Y : Nat → Hp → V → Hp → Prop} (wk : Walk J n G Y) {g : TG} {tt : TT} {te : TE} {vs : List Nat} {σ : L2.St} {H1 : Hp} {D : Addr} {Qd : Hp → Prop} (nD : H1 D = none) (hn : n < 100000)
    (hG : ∀ H, L2.Same H1 H → G H) (R : Nat → Hp → V → Prop) (rs : ∀ i H H' v, L2.Same H H' → R i H v → R i H' v) (rm : ∀ i H xs ys v, H D = some (.lst xs) → R i H v → R i (upd H D (.lst ys)) v)
    (hs : ∀ i x H H' (Kn : V → Hp → Prop) (Z : Hp → Prop), i < n → L2.Same H1 H → (∃ xs, H D = some (.lst xs)) → Y i H x H' → (∀ y H4, L2.Same H H4 → R i H4 y → Kn y H4) →
      g x (wipe σ vs) H' fun σ2 H2 => wipe σ2 vs = wipe σ vs ∧ tt σ2 H2 fun b H3 => if b = true then te σ2 H3 Kn else Z H3)
    (hd : ∀ H xs, L2.Same H1 H → H D = some (.lst xs) → xs.length = n → (∀ i y, xs[i]? = some y → R i H y) → Qd H) :
    ∃ W : Nat → Nat → Hp → Prop, (∃ m, W 0 m (upd H1 D (.lst []))) ∧ ∀ i m H, W i m H →
      (J.stop i H ∧ Qd H) ∨ (J.go i H ∧ ∃ Nx : Hp → Prop, (∀ H', Nx H' → ∃ m', m' < m ∧ W (i + 1) m' H') ∧ ∀ x H', J.yld i H x H' → g x (wipe σ vs) H' fun σ2 H2 => wipe σ2 vs = wipe σ vs ∧ tt σ2 H2 fun b H3 =>
        if b = true then te σ2 H3 fun y H4 => ∃ acc, H4 D = some (.lst acc) ∧ acc.length < sizeLine ∧ Nx (upd H4 D (.lst (acc ++ [y]))) else Nx H3) := by
  refine lc_it wk (fun i H => L2.Same H1 H ∧ ∃ xs, H D = some (.lst xs) ∧ xs.length = i ∧ ∀ j y, xs[j]? = some y → R j H y) ?_ ?_ ?_ ?_
  · exact ⟨Same.new nD, [], upd_same, rfl, fun j y e => by simp at e⟩
  · exact fun i H _ h => hG H h.1
  · intro i x H H' hi ⟨sm, xs, hD, hl, hr⟩ y
    refine hs i x H H' _ _ hi sm ⟨xs, hD⟩ y fun v H4 h4 hv => ⟨xs, h4 _ _ hD, by rw [hl]; exact Nat.lt_trans (Nat.lt_trans hi hn) (by decide), ?_⟩
    refine ⟨Same.mut (sm.trans h4) nD, xs ++ [v], upd_same, by simp [hl], fun j y e => ?_⟩
    by_cases hj : j < xs.length
    · rw [List.getElem?_append_left hj] at e
      exact rm j _ xs _ _ (h4 _ _ hD) (rs j _ _ _ h4 (hr j y e))
    · rw [List.getElem?_append_right (by omega)] at e
      have hj2 : j - xs.length = 0 := by
        cases hk : j - xs.length with
        | zero => rfl
        | succ m => rw [hk] at e; simp at e
      rw [hj2] at e
      simp at e
      subst e
      have : j = i := by omega
      subst this
      exact rm j _ xs _ _ (h4 _ _ hD) hv
  · intro H ⟨sm, xs, hD, hl, hr⟩
    exact hd H xs sm hD hl hr
theorem EntT.mut {H : Hp} {D : Addr} {xs ys : List V} {x : V} {e : Ent} (hD : H D = some (.lst xs)) (h : EntT H x e) : EntT (upd H D (.lst ys)) x e := by
  obtain ⟨t, rfl, h⟩ := h
  refine ⟨t, rfl, ?_⟩
  rw [upd_ne]
  · exact h
  · intro z
    subst z
    rw [hD] at h
    cases h
theorem EL.mut {H : Hp} {D : Addr} {xs ys zs : List V} {es : List Ent} (hD : H D = some (.lst xs)) (h : EL H zs es) : EL (upd H D (.lst ys)) zs es := by
  induction h with
  | nil => exact .nil
  | cons h _ ih => exact .cons (h.mut hD) ih
/-- a comprehension over entries that makes entries -/
theorem el_of {H : Hp} {xs : List V} {es : List Ent} {f : Ent → Ent} (hl : xs.length = es.length) (h : ∀ (i : Nat) (y : V), xs[i]? = some y → ∃ e, es[i]? = some e ∧ EntT H y (f e)) : EL H xs (es.map f) := by
  refine .of_at (by rw [List.length_map, hl]) fun i x e hx he => ?_
  obtain ⟨e', h1, h2⟩ := h i x hx
  rw [List.getElem?_map, h1] at he
  cases he
  exact h2
/-- a comprehension over entries that makes plain values -/
theorem vs_of {xs : List V} {es : List Ent} {f : Ent → V} (hl : xs.length = es.length) (h : ∀ (i : Nat) (y : V), xs[i]? = some y → ∃ e, es[i]? = some e ∧ y = f e) : xs = es.map f := by
  apply List.ext_getElem?
  intro i
  by_cases hi : i < xs.length
  · obtain ⟨e, h1, h2⟩ := h i _ (List.getElem?_eq_getElem hi)
    rw [List.getElem?_map, h1, List.getElem?_eq_getElem hi, h2]; rfl
  · rw [List.getElem?_eq_none (by omega), List.getElem?_eq_none (by simp; omega)]
theorem sd_short {α : Type} {lt : α → α → Bool} : ∀ {xs : List α}, xs.length ≤ 1 → Sd lt xs
  | [], _ => List.Pairwise.nil
  | [x], _ => List.pairwise_singleton _ _
  | _ :: _ :: l, h => by simp at h
theorem Swo.on {α β : Type} {lt : α → α → Bool} (T : Tot lt) (k : β → α) : SrtO.Swo fun x y => lt (k x) (k y) := ⟨fun x y => T.swo.asym _ _, fun x y z => T.swo.tr _ _ _⟩
end Own

set_option Elab.async false
set_option linter.all false
set_option maxRecDepth 100000
set_option maxHeartbeats 4000000
namespace K12
open PySem L2 Lay Own SrtO
local macro_rules | `(tactic| walk_at "ne") => `(tactic| first | assumption | (apply Ne.symm; assumption) | exact ne_of_none (by walk_at "look") (by assumption) | exact (ne_of_none (by walk_at "look") (by assumption)).symm)
local macro_rules | `(tactic| walk_at "look") => `(tactic| first | assumption | exact upd_same | (refine Eq.trans (upd_ne ?_) ?_; walk_at "ne"; walk_at "look"))
local macro_rules | `(tactic| walk_at "rds") => `(tactic| first | rfl | assumption | walk_at "look" | exact SqL.of (by walk_at "look") | exact SqT.of (by walk_at "look") | exact Or.inl (SqL.of (by walk_at "look")) | exact Or.inl (by assumption) | decide | omega | exact Nat.le_of_ble_eq_true rfl | exact Or.inr ⟨by decide, by decide⟩ | exact Or.inl ⟨by omega, by omega⟩ | exact ⟨by decide, by decide⟩)
local macro_rules | `(tactic| walk_at "rd1") => `(tactic| first | (apply Exists.intro) | (refine And.intro ?_ ?_; walk_at "rds") | (refine Or.inl ?_; apply Exists.intro; refine And.intro ?_ ?_; rfl))
local macro_rules | `(tactic| walk_at "rd") => `(tactic| repeat walk_at "rd1")
section
variable {P : Program} {w : World} {K : PySem.W.Frag} {mg : Str → Option Value} {base : Heap}
def spOrd (K : PySem.W.Frag) (n : Nat) : Sp := fun vs H Q _ => ∃ (a : Addr) (xs : List V) (lt : V → V → Bool), vs = [.ref a] ∧ SqL K H a xs ∧ Swo lt ∧ LtOk H lt xs ∧ xs.length ≤ 2 ^ n ∧
  ∀ zs p H', L2.Same H H' → H p = none → H' p = some (.lst zs) → zs.Perm xs → Sd lt zs → Q (.ref p) H'
theorem d_ord0 (T : Txt K mg) : Df P w K mg base 1 "in_order" ["rows"] (spOrd K 0) := by
  refine T.S_in_order.by sc_in_order (fun vs H Q E h => ?_) (fun f cdv A outer s H vs Q E hr hgd h => ?_)
  · obtain ⟨a, xs, lt, rfl, _⟩ := h; rfl
  · obtain ⟨a, xs, lt, rfl, ha, O, ok, hl, k⟩ := h
    refine ⟨_, (pss_cons (ps_if (pt_cmpR op_lt (pe_callB call_len_seq (by rfl) T.n_len PySem.boot_len (pa_cons (pv 0) pa_nil)) pe_int (nomark _)) (pss_one (ps_ret (pe_callTy call_list_of (by rfl) T.n_list (by decide +kernel) (pa_cons (pv 0) pa_nil)))) pss_nil)
      (pss_cons ps_never
      (pss_one ps_never))), ?_⟩
    have h1 : xs.length ≤ 1 := hl
    walk_at "rd"
    rw [decide_eq_true (show (xs.length : Int) < 2 by omega)]
    refine iteT ?_
    walk_at "rd"
    intro p np
    refine k xs p _ (Same.new np) np upd_same (List.Perm.refl _) (sd_short h1)
end
end K12

set_option Elab.async false
set_option linter.all false
set_option maxRecDepth 100000
set_option maxHeartbeats 4000000
namespace K12
open PySem L2 Lay Own SrtO
local macro_rules | `(tactic| walk_at "ne") => `(tactic| first | assumption | (apply Ne.symm; assumption) | exact ne_of_none (by walk_at "look") (by assumption) | exact (ne_of_none (by walk_at "look") (by assumption)).symm)
local macro_rules | `(tactic| walk_at "look") => `(tactic| first | assumption | exact upd_same | (refine Eq.trans (upd_ne ?_) ?_; walk_at "ne"; walk_at "look"))
local macro_rules | `(tactic| walk_at "rds") => `(tactic| first | rfl | assumption | walk_at "look" | exact SqL.of (by walk_at "look") | exact SqT.of (by walk_at "look") | exact Or.inl (SqL.of (by walk_at "look")) | exact Or.inl (by assumption) | decide | omega | exact Nat.le_of_ble_eq_true rfl | exact Or.inr ⟨by decide, by decide⟩ | exact Or.inl ⟨by omega, by omega⟩ | exact ⟨by decide, by decide⟩)
local macro_rules | `(tactic| walk_at "rd1") => `(tactic| first | (apply Exists.intro) | (refine And.intro ?_ ?_; walk_at "rds") | (refine Or.inl ?_; apply Exists.intro; refine And.intro ?_ ?_; rfl))
local macro_rules | `(tactic| walk_at "rd") => `(tactic| repeat walk_at "rd1")
section
variable {P : Program} {w : World} {K : PySem.W.Frag} {mg : Str → Option Value} {base : Heap}
theorem d_ordS (T : Txt K mg) (n : Nat) (hn : n < 6) (D_in_order : Df P w K mg base (n + 1) "in_order" ["rows"] (spOrd K n)) : Df P w K mg base (n + 2) "in_order" ["rows"] (spOrd K (n + 1)) := by
  have D_merged := d_merged (P := P) (w := w) (base := base) T
  refine T.S_in_order.by sc_in_order (fun vs H Q E h => ?_) (fun f cdv A outer s H vs Q E hr hgd h => ?_)
  · obtain ⟨a, xs, lt, rfl, _⟩ := h; rfl
  · obtain ⟨a, xs, lt, rfl, ha, O, ok, hl, k⟩ := h
    refine ⟨_, (pss_cons (ps_if (pt_cmpR op_lt (pe_callB call_len_seq (by rfl) T.n_len PySem.boot_len (pa_cons (pv 0) pa_nil)) pe_int (nomark _)) (pss_one (ps_ret (pe_callTy call_list_of (by rfl) T.n_list (by decide +kernel) (pa_cons (pv 0) pa_nil)))) pss_nil)
      (pss_cons (ps_set (i := 1) sc_in_order.nd rfl (by first | exact Or.inl rfl | exact Or.inr rfl) (pe_op op_fdiv (pe_callB call_len_seq (by rfl) T.n_len PySem.boot_len (pa_cons (pv 0) pa_nil)) pe_int))
      (pss_one (ps_ret (pe_own D_merged (hr.mono (by first | decide | omega)) hgd (pa_cons (pe_own D_in_order (hr.mono (by first | decide | omega)) hgd (pa_cons (pe_slice sl_list (pv 0) po_none (po_some (pv 1))) pa_nil)) (pa_cons (pe_own D_in_order (hr.mono (by first | decide | omega)) hgd (pa_cons (pe_slice sl_list (pv 0) (po_some (pv 1)) po_none) pa_nil)) pa_nil))))))), ?_⟩
    have h64 : xs.length ≤ 64 := Nat.le_trans hl (show 2 ^ (n + 1) ≤ 2 ^ 6 from Nat.pow_le_pow_right (by decide) (by omega))
    walk_at "rd"
    refine ite2 (fun c => ?_) (fun c => ?_)
    · have c1 := of_decide_eq_true c
      walk_at "rd"
      intro p np
      refine k xs p _ (Same.new np) np upd_same (List.Perm.refl _) (sd_short (by omega))
    · have c1 : ¬ ((xs.length : Int) < 2) := fun z => c (decide_eq_true z)
      have e2 : (xs.length : Int) / 2 = ((xs.length / 2 : Nat) : Int) := by omega
      have pw : 2 ^ (n + 1) = 2 * 2 ^ n := by rw [Nat.pow_succ]; omega
      walk_at "rd"
      intro p np
      rw [e2, cut_to (by omega)]
      have t1 := Same.new (o := .lst (xs.take (xs.length / 2))) np
      have okT : ∀ H2, L2.Same H H2 → ∀ ys, (∀ y ∈ ys, y ∈ xs) → LtOk H2 lt ys := fun H2 s ys hy H3 s3 x hx y hy' => ok H3 (s.trans s3) x (hy x hx) y (hy y hy')
      refine ⟨p, xs.take (xs.length / 2), lt, rfl, SqL.of upd_same, O, okT _ t1 _ (fun y h => List.mem_of_mem_take h), by rw [List.length_take]; omega, fun zs1 q1 H1 s1 n1 h1 pm1 sd1 => ?_⟩
      have t2 := t1.trans s1
      have ha1 := t2.seq ha
      walk_at "rd"
      intro p2 np2
      rw [e2, cut_from (by omega)]
      have t3 := Same.new (o := .lst (xs.drop (xs.length / 2))) np2
      refine ⟨p2, xs.drop (xs.length / 2), lt, rfl, SqL.of upd_same, O, okT _ (t2.trans t3) _ (fun y h => List.mem_of_mem_drop h), by rw [List.length_drop]; omega, fun zs2 q2 H2 s2 n2 h2 pm2 sd2 => ?_⟩
      have l1 := pm1.length_eq
      have l2 := pm2.length_eq
      rw [List.length_take] at l1
      rw [List.length_drop] at l2
      refine ⟨q1, q2, zs1, zs2, lt, rfl, SqL.of (s2 _ _ (t3 _ _ h1)), SqL.of h2, O, ?_, sd1, sd2, by omega, by omega, fun zs p3 H3 s3 n3 h3 pm sd => ?_⟩
      · refine okT _ (t2.trans (t3.trans s2)) _ fun y h => ?_
        rcases List.mem_append.mp h with h | h
        · exact List.mem_of_mem_take (pm1.mem_iff.mp h)
        · exact List.mem_of_mem_drop (pm2.mem_iff.mp h)
      · refine k zs p3 H3 (t2.trans (t3.trans (s2.trans s3))) ?_ h3 ?_ sd
        · cases e : H p3 with
          | none => rfl
          | some u => rw [t2.trans (t3.trans s2) _ _ e] at n3; cases n3
        · refine pm.trans ((pm1.append pm2).trans ?_)
          rw [List.take_append_drop]
theorem d_ord (T : Txt K mg) : ∀ n, n ≤ 6 → Df P w K mg base (n + 1) "in_order" ["rows"] (spOrd K n)
  | 0, _ => d_ord0 T
  | n + 1, h => d_ordS T n (by omega) (d_ord T n (by omega))
end
end K12

set_option Elab.async false
set_option linter.all false
set_option maxRecDepth 100000
set_option maxHeartbeats 4000000
namespace K12
open PySem L2 Lay Own SrtO
local macro_rules | `(tactic| walk_at "ne") => `(tactic| first | assumption | (apply Ne.symm; assumption) | exact ne_of_none (by walk_at "look") (by assumption) | exact (ne_of_none (by walk_at "look") (by assumption)).symm)
local macro_rules | `(tactic| walk_at "look") => `(tactic| first | assumption | exact upd_same | (refine Eq.trans (upd_ne ?_) ?_; walk_at "ne"; walk_at "look"))
local macro_rules | `(tactic| walk_at "rds") => `(tactic| first | rfl | assumption | walk_at "look" | exact SqL.of (by walk_at "look") | exact SqT.of (by walk_at "look") | exact Or.inl (SqL.of (by walk_at "look")) | exact Or.inl (by assumption) | decide | omega | exact Nat.le_of_ble_eq_true rfl | exact Or.inr ⟨by decide, by decide⟩ | exact Or.inl ⟨by omega, by omega⟩ | exact ⟨by decide, by decide⟩)
local macro_rules | `(tactic| walk_at "rd1") => `(tactic| first | (apply Exists.intro) | (refine And.intro ?_ ?_; walk_at "rds") | (refine Or.inl ?_; apply Exists.intro; refine And.intro ?_ ?_; rfl))
local macro_rules | `(tactic| walk_at "rd") => `(tactic| repeat walk_at "rd1")
section
variable {P : Program} {w : World} {K : PySem.W.Frag} {mg : Str → Option Value} {base : Heap}
theorem ix_tupK {cx : Cx} {C : PySem.W.Frag} (h : cx.K = C) : IxR cx (rIxT C) := h ▸ ix_tup
theorem un66 {k : Nat} {B : Around} (hr : Room k B) : B.units + 66 < cLine := by
  have := hr.un
  omega
/-! is_list -/
def spIsL (K : PySem.W.Frag) : Sp := fun vs H Q _ => ∃ a xs, vs = [.ref a] ∧ (H a = some (.lst xs) ∨ H a = some (.tup xs)) ∧ ∀ H', L2.Same H H' → Q (.bl true) H'
theorem d_is_list (T : Txt K mg) : Df P w K mg base 1 "is_list" ["value"] (spIsL K) := by
  refine T.S_is_list.by sc_is_list (fun vs H Q E h => ?_) (fun f cdv A outer s H vs Q E hr hgd h => ?_)
  · obtain ⟨a, xs, rfl, _⟩ := h; rfl
  · obtain ⟨a, xs, rfl, ha, k⟩ := h
    refine ⟨_, (pss_one (ps_ret (pe_callB call_isiT (by rfl) T.n_isinstance (by decide +kernel) (pa_cons (pv 0) (pa_cons (pe_tup (pa_cons (pe_bltn (v := .ty "list") (u := .type "list") (by rfl) T.n_list (by decide +kernel) rfl) (pa_cons (pe_bltn (v := .ty "tuple") (u := .type "tuple") (by rfl) T.n_tuple (by decide +kernel) rfl) pa_nil))) pa_nil))))), ?_⟩
    walk_at "rd"
    intro t nt
    have s := Same.new (o := .tup [V.ty "list", V.ty "tuple"]) nt
    rcases ha with ha | ha
    · exact ⟨.ref a, t, [.ty "list", .ty "tuple"], .type "list", [.type "list", .type "tuple"], true, rfl, upd_same, .cons (.ty _) (.cons (.ty _) .nil), .base (.lst (s _ _ ha)), by
        exact kitAny_cons (b := true) (kit_ty (show kitB "list" "list" = some true from by decide +kernel)) (fun z => by cases z) (fun _ => rfl), k _ s⟩
    · exact ⟨.ref a, t, [.ty "list", .ty "tuple"], .type "tuple", [.type "list", .type "tuple"], true, rfl, upd_same, .cons (.ty _) (.cons (.ty _) .nil), .base (.tup (s _ _ ha)), by
        exact kitAny_cons (b := false) (kit_ty (show kitB "tuple" "list" = some false from by decide +kernel)) (fun _ => kitAny_cons (b := true) (kit_ty (show kitB "tuple" "tuple" = some true from by decide +kernel)) (fun z => by cases z) (fun _ => rfl)) (fun z => by cases z), k _ s⟩
/-! check_reach -/
def spChR (K : PySem.W.Frag) : Sp := fun vs H Q _ => ∃ a m1 m2, vs = [.ref a] ∧ H a = some (.tup [.int m1, .int m2]) ∧ m1 ≤ 3 ∧ m2 ≤ 3 ∧ Q .non H
theorem d_check_reach (T : Txt K mg) : Df P w K mg base 1 "check_reach" ["reach"] (spChR K) := by
  obtain ⟨mc, cr, _, _, u3, c3⟩ := T.cr
  refine T.S_check_reach.by sc_check_reach (fun vs H Q E h => ?_) (fun f cdv A outer s H vs Q E hr hgd h => ?_)
  · obtain ⟨a, m1, m2, rfl, _⟩ := h; rfl
  · obtain ⟨a, m1, m2, rfl, ha, l1, l2, k⟩ := h
    refine ⟨_, (pss_cons (ps_asg (pv 0) (pg_tup rfl (pgs_cons (pg_name (i := 1) sc_check_reach.nd rfl (by first | exact Or.inl rfl | exact Or.inr rfl)) (pgs_cons (pg_name (i := 2) sc_check_reach.nd rfl (by first | exact Or.inl rfl | exact Or.inr rfl)) pgs_nil))))
      (pss_cons (ps_if (pt_cmpR op_gt (pv 1) (ClX.pe_cval (pe_glob (v := .ref (He.ga K "Kind")) (by rfl) T.g_Kind rfl)) (nomark _)) (pss_one ps_never) pss_nil)
      (pss_one (ps_if (pt_cmpR op_gt (pv 2) (ClX.pe_cval (pe_glob (v := .ref (He.ga K "Kind")) (by rfl) T.g_Kind rfl)) (nomark _)) (pss_one ps_never) pss_nil)))), ?_⟩
    refine ⟨_, rfl, a, _, rfl, SqT.of ha, rfl, ?_⟩
    walk_at "rd"
    refine ite2 (fun c => ?_) (fun c => ?_)
    · have := of_decide_eq_true c
      exact absurd this (by omega)
    walk_at "rd"
    refine ite2 (fun c => ?_) (fun c => ?_)
    · have := of_decide_eq_true c
      exact absurd this (by omega)
    exact k
/-! reach_of -/
theorem ints_of {α : Type} {g : α → Int} {es : List α} {ys : List V} (hl : ys.length = es.length) (h : ∀ (i : Nat) y, ys[i]? = some y → ∃ e, es[i]? = some e ∧ y = .int (g e)) : ys = (es.map g).map .int := by
  apply List.ext_getElem?
  intro i
  rw [List.getElem?_map, List.getElem?_map]
  cases hy : ys[i]? with
  | none =>
    have : es.length ≤ i := by rw [← hl]; exact List.getElem?_eq_none_iff.mp hy
    rw [List.getElem?_eq_none this]; rfl
  | some y =>
    obtain ⟨e, he, rfl⟩ := h i y hy
    rw [he]; rfl
def IsMax (m : Int) (ns : List Int) : Prop := m ∈ ns ∧ ∀ y ∈ ns, y ≤ m
def spReach (K : PySem.W.Frag) : Sp := fun vs H Q _ => ∃ a xs es, vs = [.ref a] ∧ H a = some (.lst xs) ∧ EL H xs es ∧ 0 < es.length ∧ es.length ≤ 64 ∧
  ∀ p m1 m2 H', L2.Same H H' → H p = none → H' p = some (.tup [.int m1, .int m2]) → IsMax m1 (es.map (·.1)) → IsMax m2 (es.map (·.2.1)) → Q (.ref p) H'
theorem d_reach_of (T : Txt K mg) : Df P w K mg base 1 "reach_of" ["entries"] (spReach K) := by
  refine T.S_reach_of.by sc_reach_of (fun vs H Q E h => ?_) (fun f cdv A outer s H vs Q E hr hgd h => ?_)
  · obtain ⟨a, xs, es, rfl, _⟩ := h; rfl
  · obtain ⟨a, xs, es, rfl, ha, el, l0, l1, k⟩ := h
    refine ⟨_, (pss_one (ps_ret (pe_tup (pa_cons (pe_callB  (cr_max rfl) (by rfl) T.n_max (by decide +kernel) (pa_cons (pe_lc (own := [("entry", 1)]) rfl sc_reach_of.nd (pi_list (pv 0)) (blkOk_by (own := [("entry", 1)]) (N := ["entries", "entry"]) (sc := defScope s_reach_of) (by decide +kernel)) (fun _ _ _ _ _ => (pg_name (i := 1) sc_reach_of.nd rfl (by first | exact Or.inl rfl | exact Or.inr rfl))) (fun _ _ _ _ _ => pts_nil) (fun _ _ _ _ _ => (pe_callTy call_int1 (by rfl) T.n_int (by decide +kernel) (pa_cons (pe_ix  (ix_tupK (C := K) rfl) (pv 1) pe_int (fun _ _ => rfl)) pa_nil)))) pa_nil)) (pa_cons (pe_callB  (cr_max rfl) (by rfl) T.n_max (by decide +kernel) (pa_cons (pe_lc (own := [("entry", 1)]) rfl sc_reach_of.nd (pi_list (pv 0)) (blkOk_by (own := [("entry", 1)]) (N := ["entries", "entry"]) (sc := defScope s_reach_of) (by decide +kernel)) (fun _ _ _ _ _ => (pg_name (i := 1) sc_reach_of.nd rfl (by first | exact Or.inl rfl | exact Or.inr rfl))) (fun _ _ _ _ _ => pts_nil) (fun _ _ _ _ _ => (pe_callTy call_int1 (by rfl) T.n_int (by decide +kernel) (pa_cons (pe_ix  (ix_tupK (C := K) rfl) (pv 1) pe_int (fun _ _ => rfl)) pa_nil)))) pa_nil)) pa_nil))))), ?_⟩
    have ln := el.len
    refine ⟨_, rfl, a, rfl, ⟨_, SqL.of ha⟩, fun D nD => ?_⟩
    refine lc_pure (walk_list (xs := xs)) nD (by omega) (fun _ sm => SqL.of (sm _ _ ha)) (fun i y => ∃ e, es[i]? = some e ∧ y = .int e.1) (fun i x H4 H5 Kn Z hi sm y q => ?_) (fun H4 ys sm hD hl hr => ?_)
    · obtain ⟨rfl, hx⟩ := y
      obtain ⟨e, he, t, rfl, ht⟩ := el.at hx
      have ht' := sm _ _ ht
      walk_at "rd"
      exact q _ _ (Same.refl _) ⟨e, he, rfl⟩
    · obtain rfl := ints_of (hl.trans ln) hr
      refine ⟨D, es.map (·.1), rfl, SqL.of hD, by rw [List.length_map]; exact l0, fun m hm hle => ?_⟩
      refine ⟨_, rfl, a, rfl, ⟨_, SqL.of (sm _ _ ha)⟩, fun D2 nD2 => ?_⟩
      refine lc_pure (walk_list (xs := xs)) nD2 (by omega) (fun _ sm2 => SqL.of (sm2 _ _ (sm _ _ ha))) (fun i y => ∃ e, es[i]? = some e ∧ y = .int e.2.1) (fun i x H5 H6 Kn Z hi sm2 y q => ?_) (fun H5 ys sm2 hD2 hl2 hr2 => ?_)
      · obtain ⟨rfl, hx⟩ := y
        obtain ⟨e, he, t, rfl, ht⟩ := el.at hx
        have ht' := sm2 _ _ (sm _ _ ht)
        walk_at "rd"
        exact q _ _ (Same.refl _) ⟨e, he, rfl⟩
      · obtain rfl := ints_of (hl2.trans ln) hr2
        refine ⟨D2, es.map (·.2.1), rfl, SqL.of hD2, by rw [List.length_map]; exact l0, fun m2 hm2 hle2 => ?_⟩
        refine ⟨by show (2 : Nat) ≤ sizeLine; decide +kernel, fun p np => ?_⟩
        exact k p m m2 _ ((sm.trans sm2).trans (Same.new np)) ((sm.trans sm2).free np) upd_same ⟨hm, hle⟩ ⟨hm2, hle2⟩
end
end K12

set_option Elab.async false
set_option linter.all false
set_option maxRecDepth 100000
set_option maxHeartbeats 4000000
namespace K12
open PySem L2 Lay Own SrtO
local macro_rules | `(tactic| walk_at "ne") => `(tactic| first | assumption | (apply Ne.symm; assumption) | exact ne_of_none (by walk_at "look") (by assumption) | exact (ne_of_none (by walk_at "look") (by assumption)).symm)
local macro_rules | `(tactic| walk_at "look") => `(tactic| first | assumption | exact upd_same | (refine Eq.trans (upd_ne ?_) ?_; walk_at "ne"; walk_at "look"))
local macro_rules | `(tactic| walk_at "rds") => `(tactic| first | rfl | assumption | walk_at "look" | exact SqL.of (by walk_at "look") | exact SqT.of (by walk_at "look") | exact Or.inl (SqL.of (by walk_at "look")) | exact Or.inl (by assumption) | decide | omega | exact Nat.le_of_ble_eq_true rfl | exact Or.inr ⟨by decide, by decide⟩ | exact Or.inl ⟨by omega, by omega⟩ | exact ⟨by decide, by decide⟩)
local macro_rules | `(tactic| walk_at "rd1") => `(tactic| first | (apply Exists.intro) | (refine And.intro ?_ ?_; walk_at "rds") | (refine Or.inl ?_; apply Exists.intro; refine And.intro ?_ ?_; rfl))
local macro_rules | `(tactic| walk_at "rd") => `(tactic| repeat walk_at "rd1")
section
variable {P : Program} {w : World} {K : PySem.W.Frag} {mg : Str → Option Value} {base : Heap}
/-! check_entries -/
def EOk (e : Ent) : Prop := (-20 ≤ e.1 ∧ e.1 ≤ 20) ∧ (-20 ≤ e.2.1 ∧ e.2.1 ≤ 20) ∧ nameB e.2.2 = true ∧ e.2.2.length ≤ 1000 ∧ NmOk e
structure EsOk (es : List Ent) : Prop where
  l0 : 2 ≤ es.length
  l1 : es.length ≤ 6
  nd : es.Nodup
  ok : ∀ e ∈ es, EOk e
def spChk (K : PySem.W.Frag) : Sp := fun vs H Q _ => ∃ a xs es, vs = [.ref a] ∧ H a = some (.tup xs) ∧ EL H xs es ∧ EsOk es ∧ ∀ H', L2.Same H H' → Q .non H'
theorem d_check_entries (T : Txt K mg) : Df P w K mg base 4 "check_entries" ["entries"] (spChk K) := by
  obtain ⟨mc, cr, _, ⟨u2, c2⟩, _⟩ := T.cr
  have D_is_entry := d_is_entry (P := P) (w := w) (base := base) T
  refine T.S_check_entries.by sc_check_entries (fun vs H Q E h => ?_) (fun f cdv A outer s H vs Q E hr hgd h => ?_)
  · obtain ⟨a, xs, es, rfl, _⟩ := h; rfl
  · obtain ⟨a, xs, es, rfl, ha, el, ok, k⟩ := h
    refine ⟨_, (pss_cons (ps_if (PW.pt (pw_or (pt_cmpR op_lt (pe_callB call_len_seq (by rfl) T.n_len PySem.boot_len (pa_cons (pv 0) pa_nil)) (pe_con1 T.c_FEWEST_ENTRIES) (nomark _)) (pw_or1 (pt_cmpR op_gt (pe_callB call_len_seq (by rfl) T.n_len PySem.boot_len (pa_cons (pv 0) pa_nil)) (ClX.pe_cval (pe_glob (v := .ref (He.ga K "Kind")) (by rfl) T.g_Kind rfl)) (nomark _))))) (pss_one ps_never) pss_nil)
      (pss_one (ps_for PassesOwn.never rfl  (pi_enumT (by rfl) T.n_enumerate (pa_cons (pv 0) pa_nil)) (pg_tup rfl (pgs_cons (pg_name (i := 1) sc_check_entries.nd rfl (by first | exact Or.inl rfl | exact Or.inr rfl)) (pgs_cons (pg_name (i := 2) sc_check_entries.nd rfl (by first | exact Or.inl rfl | exact Or.inr rfl)) pgs_nil))) (pss_one (ps_if (PW.pt (pw_or (pt_not (pt_val (pe_own D_is_entry (hr.mono (by first | decide | omega)) hgd (pa_cons (pv 2) pa_nil)))) (pw_or1 (pt_cmpR  (op_inT (un66 hr)) (pv 2) (pe_slice sl_tup (pv 0) po_none (po_some (pv 1))) (by rfl))))) (pss_one ps_never) pss_nil))))), ?_⟩
    have ln := el.len
    have l0 := ok.l0
    have l1 := ok.l1
    refine ⟨_, rfl, a, xs, rfl, .inr (SqT.of ha), ?_⟩
    walk_at "rd"
    rw [decide_eq_false (show ¬ (xs.length : Int) < 2 by omega)]
    refine iteF ?_
    refine ⟨_, rfl, a, xs, rfl, .inr (SqT.of ha), ?_⟩
    walk_at "rd"
    rw [decide_eq_false (show ¬ (6 : Int) < (xs.length : Int) by omega)]
    refine iteF ?_
    refine ⟨_, rfl, a, xs, rfl, SqT.of ha, ?_⟩
    refine for_it walk_enumT (fun i σ H' => ∃ p q, σ = [some (.ref a), p, q] ∧ Same H H') ⟨_, _, rfl, Same.refl H⟩ (fun i σ H' _ ⟨p, q, e, s⟩ => SqT.of (s _ _ ha)) (fun i x σ H1 H2 hi ⟨p, q, e, s⟩ y => ?_) (fun σ H' ⟨p, q, e, s⟩ => k H' s)
    subst e
    obtain ⟨t, x1, y1, rfl, nT, rfl, e1, e2⟩ := y
    cases e1
    have s2 := Same.new (o := .tup [V.int (i : Int), y1]) nT
    refine ⟨t, _, rfl, SqT.of upd_same, rfl, ?_⟩
    walk_at "rd"
    obtain ⟨e, he, t2, rfl, ht2⟩ := el.at e2
    have s3 := s.trans s2
    have ht2' := s3 _ _ ht2
    obtain ⟨⟨b1, b2⟩, ⟨b3, b4⟩, nm, nl, no⟩ := ok.ok e (List.mem_of_getElem? he)
    refine ⟨.tup ht2', .inr ⟨t2, _, _, _, rfl, ht2', .int _, .int _, .str _ (by omega), fun H3 s4 => ?_⟩⟩
    have eb : (dB (.int e.1) && (dB (.int e.2.1) && nB (.str e.2.2))) = true := by
      show ((decide (-20 ≤ e.1) && decide (e.1 ≤ 20)) && ((decide (-20 ≤ e.2.1) && decide (e.2.1 ≤ 20)) && nameB e.2.2)) = true
      rw [decide_eq_true b1, decide_eq_true b2, decide_eq_true b3, decide_eq_true b4, nm]; rfl
    rw [eb]
    refine ⟨_, rfl, ?_⟩
    refine iteF ?_
    have s5 := s3.trans s4
    have sq : SqT K H3 a xs := SqT.of (s5 _ _ ha)
    walk_at "rd"
    refine ⟨?_, fun p2 n2 => ?_⟩
    · rw [HT.sIx_nat]
      intro z
      have := z.2
      omega
    rw [cut_to (by omega)]
    have s6 := Same.new (o := .tup (xs.take i)) n2
    have d1 : EntT H (.ref t2) e := ⟨t2, rfl, ht2⟩
    have nmA : ∀ f ∈ es, NmOk f := fun f hf => (ok.ok f hf).2.2.2.2
    have nmT : ∀ f ∈ es.take i, NmOk f := fun f hf => nmA f (List.mem_of_mem_take hf)
    refine ⟨_, _, (d1.same (s5.trans s6)).dp, .tup (SqT.of upd_same) ((el.take i).same (s5.trans s6)).dp, eD_sh no, eDs_sh nmT, ?_⟩
    rw [any_eD]
    have ni : ¬ e ∈ es.take i := fun hm => by
      obtain ⟨j, hj⟩ := List.mem_iff_getElem?.mp hm
      have hj' : j < i := by
        have := (List.getElem?_eq_some_iff.mp hj).1
        rw [List.length_take] at this
        omega
      rw [List.getElem?_take_of_lt hj'] at hj
      have := (List.getElem?_inj (List.getElem?_eq_some_iff.mp hj).1 ok.nd).mp (hj.trans he.symm)
      omega
    rw [decide_eq_false ni]
    refine ⟨_, rfl, ?_⟩
    refine iteF ?_
    exact ⟨_, _, rfl, s5.trans s6⟩
end
end K12

set_option Elab.async false
set_option linter.all false
set_option maxRecDepth 100000
set_option maxHeartbeats 4000000
namespace K12
open PySem L2 Lay Own SrtO
local macro_rules | `(tactic| walk_at "ne") => `(tactic| first | assumption | (apply Ne.symm; assumption) | exact ne_of_none (by walk_at "look") (by assumption) | exact (ne_of_none (by walk_at "look") (by assumption)).symm)
local macro_rules | `(tactic| walk_at "look") => `(tactic| first | assumption | exact upd_same | (refine Eq.trans (upd_ne ?_) ?_; walk_at "ne"; walk_at "look"))
local macro_rules | `(tactic| walk_at "rds") => `(tactic| first | rfl | assumption | walk_at "look" | exact SqL.of (by walk_at "look") | exact SqT.of (by walk_at "look") | exact Or.inl (SqL.of (by walk_at "look")) | exact Or.inl (by assumption) | decide | omega | exact Nat.le_of_ble_eq_true rfl | exact Or.inr ⟨by decide, by decide⟩ | exact Or.inl ⟨by omega, by omega⟩ | exact ⟨by decide, by decide⟩)
local macro_rules | `(tactic| walk_at "rd1") => `(tactic| first | (apply Exists.intro) | (refine And.intro ?_ ?_; walk_at "rds") | (refine Or.inl ?_; apply Exists.intro; refine And.intro ?_ ?_; rfl))
local macro_rules | `(tactic| walk_at "rd") => `(tactic| repeat walk_at "rd1")
section
variable {P : Program} {w : World} {K : PySem.W.Frag} {mg : Str → Option Value} {base : Heap}
/-! normed -/
def IsMin (m : Int) (ns : List Int) : Prop := m ∈ ns ∧ ∀ y ∈ ns, m ≤ y
/-- moved to the left and down -/
def mv (lo bo : Int) (e : Ent) : Ent := (e.1 - lo, e.2.1 - bo, e.2.2)
def Nrm (es fs : List Ent) : Prop := ∃ lo bo, IsMin lo (es.map (·.1)) ∧ IsMin bo (es.map (·.2.1)) ∧ fs.Perm (es.map (mv lo bo)) ∧ Sd entLt fs
def spNrm (K : PySem.W.Frag) : Sp := fun vs H Q _ => ∃ a xs es, vs = [.ref a] ∧ H a = some (.tup xs) ∧ EL H xs es ∧ 0 < es.length ∧ es.length ≤ 8 ∧
  ∀ p zs fs H', L2.Same H H' → H p = none → H' p = some (.lst zs) → EL H' zs fs → Nrm es fs → Q (.ref p) H'
theorem d_normed (T : Txt K mg) : Df P w K mg base 5 "normed" ["entries"] (spNrm K) := by
  have D_in_order := d_ord (P := P) (w := w) (base := base) T 3 (by decide)
  refine T.S_normed.by sc_normed (fun vs H Q E h => ?_) (fun f cdv A outer s H vs Q E hr hgd h => ?_)
  · obtain ⟨a, xs, es, rfl, _⟩ := h; rfl
  · obtain ⟨a, xs, es, rfl, ha, el, l0, l1, k⟩ := h
    refine ⟨_, (pss_cons (ps_set (i := 1) sc_normed.nd rfl (by first | exact Or.inl rfl | exact Or.inr rfl) (pe_callB  (cr_min rfl) (by rfl) T.n_min (by decide +kernel) (pa_cons (pe_lc (own := [("entry", 3)]) rfl sc_normed.nd (pi_tup (pv 0)) (blkOk_by (own := [("entry", 3)]) (N := ["entries", "low", "bottom", "entry", "across", "up", "name"]) (sc := defScope s_normed) (by decide +kernel)) (fun _ _ _ _ _ => (pg_name (i := 3) sc_normed.nd rfl (by first | exact Or.inl rfl | exact Or.inr rfl))) (fun _ _ _ _ _ => pts_nil) (fun _ _ _ _ _ => (pe_callTy call_int1 (by rfl) T.n_int (by decide +kernel) (pa_cons (pe_ix  (ix_tupK (C := K) rfl) (pv 3) pe_int (fun _ _ => rfl)) pa_nil)))) pa_nil)))
      (pss_cons (ps_set (i := 2) sc_normed.nd rfl (by first | exact Or.inl rfl | exact Or.inr rfl) (pe_callB  (cr_min rfl) (by rfl) T.n_min (by decide +kernel) (pa_cons (pe_lc (own := [("entry", 3)]) rfl sc_normed.nd (pi_tup (pv 0)) (blkOk_by (own := [("entry", 3)]) (N := ["entries", "low", "bottom", "entry", "across", "up", "name"]) (sc := defScope s_normed) (by decide +kernel)) (fun _ _ _ _ _ => (pg_name (i := 3) sc_normed.nd rfl (by first | exact Or.inl rfl | exact Or.inr rfl))) (fun _ _ _ _ _ => pts_nil) (fun _ _ _ _ _ => (pe_callTy call_int1 (by rfl) T.n_int (by decide +kernel) (pa_cons (pe_ix  (ix_tupK (C := K) rfl) (pv 3) pe_int (fun _ _ => rfl)) pa_nil)))) pa_nil)))
      (pss_one (ps_ret (pe_own D_in_order (hr.mono (by first | decide | omega)) hgd (pa_cons (pe_lc (own := [("across", 4), ("up", 5), ("name", 6)]) rfl sc_normed.nd (pi_tup (pv 0)) (blkOk_by (own := [("across", 4), ("up", 5), ("name", 6)]) (N := ["entries", "low", "bottom", "entry", "across", "up", "name"]) (sc := defScope s_normed) (by decide +kernel)) (fun _ _ _ _ _ => (pg_tupK (K := K) (n := 3) rfl rfl (pgs_cons (pg_name (i := 4) sc_normed.nd rfl (by first | exact Or.inl rfl | exact Or.inr rfl)) (pgs_cons (pg_name (i := 5) sc_normed.nd rfl (by first | exact Or.inl rfl | exact Or.inr rfl)) (pgs_cons (pg_name (i := 6) sc_normed.nd rfl (by first | exact Or.inl rfl | exact Or.inr rfl)) pgs_nil))))) (fun _ _ _ _ _ => pts_nil) (fun _ _ _ _ _ => (pe_tup (pa_cons (pe_op op_sub (pv 4) (pv 1)) (pa_cons (pe_op op_sub (pv 5) (pv 2)) (pa_cons (pv 6) pa_nil)))))) pa_nil)))))), ?_⟩
    have ln := el.len
    refine ⟨_, rfl, a, rfl, ⟨_, SqT.of ha⟩, fun D nD => ?_⟩
    refine lc_pure (walk_tup (xs := xs)) nD (by omega) (fun _ sm => SqT.of (sm _ _ ha)) (fun i y => ∃ e, es[i]? = some e ∧ y = .int e.1) (fun i x H4 H5 Kn Z hi sm y q => ?_) (fun H4 ys sm hD hl hr => ?_)
    · obtain ⟨rfl, hx⟩ := y
      obtain ⟨e, he, t, rfl, ht⟩ := el.at hx
      have ht' := sm _ _ ht
      walk_at "rd"
      exact q _ _ (Same.refl _) ⟨e, he, rfl⟩
    · obtain rfl := ints_of (hl.trans ln) hr
      refine ⟨D, es.map (·.1), rfl, SqL.of hD, by rw [List.length_map]; exact l0, fun lo hm hle => ?_⟩
      refine ⟨_, rfl, a, rfl, ⟨_, SqT.of (sm _ _ ha)⟩, fun D2 nD2 => ?_⟩
      refine lc_pure (walk_tup (xs := xs)) nD2 (by omega) (fun _ sm2 => SqT.of (sm2 _ _ (sm _ _ ha))) (fun i y => ∃ e, es[i]? = some e ∧ y = .int e.2.1) (fun i x H5 H6 Kn Z hi sm2 y q => ?_) (fun H5 ys sm2 hD2 hl2 hr2 => ?_)
      · obtain ⟨rfl, hx⟩ := y
        obtain ⟨e, he, t, rfl, ht⟩ := el.at hx
        have ht' := sm2 _ _ (sm _ _ ht)
        walk_at "rd"
        exact q _ _ (Same.refl _) ⟨e, he, rfl⟩
      · obtain rfl := ints_of (hl2.trans ln) hr2
        refine ⟨D2, es.map (·.2.1), rfl, SqL.of hD2, by rw [List.length_map]; exact l0, fun bo hm2 hle2 => ?_⟩
        have s2 := sm.trans sm2
        refine ⟨_, rfl, a, rfl, ⟨_, SqT.of (s2 _ _ ha)⟩, fun D3 nD3 => ?_⟩
        refine lc_depI (walk_tup (xs := xs)) nD3 (by omega) (fun _ sm3 => SqT.of (sm3 _ _ (s2 _ _ ha))) (fun i H v => ∃ e, es[i]? = some e ∧ EntT H v (mv lo bo e)) (fun i H H' v s ⟨e, he, h⟩ => ⟨e, he, h.same s⟩) (fun i H xs ys v hD ⟨e, he, h⟩ => ⟨e, he, h.mut hD⟩) (fun i x H6 H7 Kn Z hi sm3 _ y q => ?_) (fun H6 ys sm3 hD3 hl3 hr3 => ?_)
        · obtain ⟨rfl, hx⟩ := y
          obtain ⟨e, he, t, rfl, ht⟩ := el.at hx
          have ht' := sm3 _ _ (s2 _ _ ht)
          refine ⟨t, _, rfl, SqT.of ht', rfl, ?_⟩
          walk_at "rd"
          exact fun p np => q _ _ (Same.new np) ⟨e, he, p, rfl, upd_same⟩
        · have s3 := s2.trans sm3
          have el3 : EL H6 ys (es.map (mv lo bo)) := el_of (hl3.trans ln) hr3
          have O : Swo fun x y => entLt (entOf H6 x) (entOf H6 y) := Swo.on tot_ent _
          refine ⟨D3, ys, _, rfl, SqL.of hD3, O, fun H7 s x hx y hy => .ent ((el3.ents x hx).same s) ((el3.ents y hy).same s), by omega, fun zs p H7 s4 np hp pm sd => ?_⟩
          obtain ⟨el4, pm4⟩ := el3.perm pm
          refine k p zs _ H7 (s3.trans s4) (s3.free np) hp (el4.same s4) ⟨lo, bo, ⟨hm, hle⟩, ⟨hm2, hle2⟩, pm4, ?_⟩
          exact List.Pairwise.map _ (fun a b h => h) sd
end
end K12

set_option Elab.async false
set_option linter.all false
set_option maxRecDepth 100000
set_option maxHeartbeats 4000000
namespace K12
open PySem L2 Lay Own SrtO
local macro_rules | `(tactic| walk_at "ne") => `(tactic| first | assumption | (apply Ne.symm; assumption) | exact ne_of_none (by walk_at "look") (by assumption) | exact (ne_of_none (by walk_at "look") (by assumption)).symm)
local macro_rules | `(tactic| walk_at "look") => `(tactic| first | assumption | exact upd_same | (refine Eq.trans (upd_ne ?_) ?_; walk_at "ne"; walk_at "look"))
local macro_rules | `(tactic| walk_at "rds") => `(tactic| first | rfl | assumption | walk_at "look" | exact SqL.of (by walk_at "look") | exact SqT.of (by walk_at "look") | exact Or.inl (SqL.of (by walk_at "look")) | exact Or.inl (by assumption) | decide | omega | exact Nat.le_of_ble_eq_true rfl | exact Or.inr ⟨by decide, by decide⟩ | exact Or.inl ⟨by omega, by omega⟩ | exact ⟨by decide, by decide⟩)
local macro_rules | `(tactic| walk_at "rd1") => `(tactic| first | (apply Exists.intro) | (refine And.intro ?_ ?_; walk_at "rds") | (refine Or.inl ?_; apply Exists.intro; refine And.intro ?_ ?_; rfl))
local macro_rules | `(tactic| walk_at "rd") => `(tactic| repeat walk_at "rd1")
section
variable {P : Program} {w : World} {K : PySem.W.Frag} {mg : Str → Option Value} {base : Heap}
/-! methods, by their bodies -/
def MDf (P : Program) (w : World) (K : PySem.W.Frag) (mg : Str → Option Value) (base : Heap) (k : Nat) (g : Addr) (ps : List Str) (sp : Sp) : Prop := ∃ fd, FnG P w K mg base CX0 k g fd ps sp ∧ Binds K fd ps [] ∧ Kw1 fd ps ∧ Rx.Kw2 fd ps
theorem MDf.fp {k : Nat} {g : Addr} {ps : List Str} {sp : Sp} (D : MDf P w K mg base k g ps sp) : FnP P w K mg base k g sp := by
  obtain ⟨fd, F, b, _⟩ := D
  exact .ofG F b
theorem Ms.by {m qual : Str} {st : Stmt} {g : Addr} {ps N : List Str} {k : Nat} {sp : Sp} (S : Ms K m qual st g ps) (sc : FnScope N ps (defScope st)) (len : ∀ vs H Q E, sp vs H Q E → vs.length = ps.length)
    (hbody : ∀ (f : Addr) (cdv : Value) (A : Around) (outer : List Env) (s : Shared) (H : Hp) (vs : List V) (Q : VK) (E : XK),
      Room k (A.deeper (PyProof.Rows.envOfC qual (defScope st) s.heap.objs.size f cdv)) → A.guards = some [] → sp vs H Q E →
      ∃ t, PSs (cxOf CX0 P w K mg base N qual (defScope st) f cdv A outer s H E).nox (defBody st) t ∧ t { nx := fun _ H' => Q .non H', rt := Q } (L2.start N vs) H) : MDf P w K mg base (k + 1) g ps sp := by
  obtain ⟨fd, F, b⟩ := S
  exact ⟨fd, okG F sc len (hbody g), b⟩
/-! making a kind -/
def KindAt (K : PySem.W.Frag) (H : Hp) (a : Addr) (fs : List Ent) (m1 m2 : Int) : Prop := ∃ dx t r zs, H a = some (.ins (kc K) dx [("_entries", .ref t), ("_reach", .ref r)]) ∧ H dx = some (.own a) ∧ H t = some (.tup zs) ∧ EL H zs fs ∧ H r = some (.tup [.int m1, .int m2])
structure Kn (es fs : List Ent) (m1 m2 : Int) : Prop where
  n : Nrm es fs
  x : IsMax m1 (fs.map (·.1))
  y : IsMax m2 (fs.map (·.2.1))
def spIni (K : PySem.W.Frag) : Sp := fun vs H Q _ => ∃ x dx p xs es, vs = [.ref x, .ref p] ∧ H x = some (.ins (kc K) dx []) ∧ H dx = some (.own x) ∧ H p = some (.tup xs) ∧ EL H xs es ∧ EsOk es ∧ (∀ fs m1 m2, Kn es fs m1 m2 → m1 ≤ 3 ∧ m2 ≤ 3) ∧
  ∀ fs m1 m2 H', (∀ b o, H b = some o → b ≠ x → H' b = some o) → KindAt K H' x fs m1 m2 → Kn es fs m1 m2 → Q .non H'
theorem d_init (T : Txt K mg) : FnP P w K mg base 7 (He.ma K (kc K) "__init__") (fun vs H Q E => ∃ ws rest, vs = ws ++ rest ∧ ws.length = ["self"].length ∧ rest.length ≤ sizeLine ∧ ∀ p, H p = Option.none → spIni K (ws ++ [V.ref p]) (upd H p (.tup rest)) Q E) := by
  have D_check_entries := d_check_entries (P := P) (w := w) (base := base) T
  have D_normed := d_normed (P := P) (w := w) (base := base) T
  have D_reach_of := d_reach_of (P := P) (w := w) (base := base) T
  have D_check_reach := d_check_reach (P := P) (w := w) (base := base) T
  obtain ⟨fd, F⟩ := T.M___init__
  obtain ⟨oc, od, kV, doc, pm, an, cdv, ct, osl, rfl, lk, hcd⟩ := F.ex
  refine fnP_star (ps := ["self"]) (pv := "entries") lk hcd sc_Kind___init (fun us rest hl => ?_) (fun A outer s H vs Q E hr hgd h => ?_)
  · match us, hl with
    | [u], _ =>
      cases rest with
      | nil => rfl
      | cons v r => rfl
  · obtain ⟨x, dx, p, xs, es, rfl, hx, hdx, hp, el, ok, le, k⟩ := h
    refine ⟨_, ((pss_cons (ps_expr (pe_own D_check_entries (hr.mono (by first | decide | omega)) hgd (pa_cons (pv 1) pa_nil)))
      (pss_cons (ps_set (i := 2) sc_Kind___init.nd rfl (by first | exact Or.inl rfl | exact Or.inr rfl) (pe_own D_normed (hr.mono (by first | decide | omega)) hgd (pa_cons (pv 1) pa_nil)))
      (pss_cons (ps_set (i := 3) sc_Kind___init.nd rfl (by first | exact Or.inl rfl | exact Or.inr rfl) (pe_own D_reach_of (hr.mono (by first | decide | omega)) hgd (pa_cons (pv 2) pa_nil)))
      (pss_cons (ps_expr (pe_own D_check_reach (hr.mono (by first | decide | omega)) hgd (pa_cons (pv 3) pa_nil)))
      (pss_cons (ps_fld (pv 0) (pe_callTy call_tuple_of (by rfl) T.n_tuple (by decide +kernel) (pa_cons (pv 2) pa_nil)) rfl)
      (pss_one (ps_fld (pv 0) (pv 3) rfl)))))))).nox, ?_⟩
    have ln := el.len
    have l0 := ok.l0
    have l1 := ok.l1
    refine ⟨_, rfl, p, xs, es, rfl, hp, el, ok, fun H1 s1 => ?_⟩
    refine ⟨_, rfl, p, xs, es, rfl, s1 _ _ hp, el.same s1, by omega, by omega, fun o zs fs H2 s2 n2 h2 el2 nr => ?_⟩
    have lf : fs.length = es.length := by
      obtain ⟨_, _, _, _, pm, _⟩ := nr
      rw [pm.length_eq, List.length_map]
    refine ⟨_, rfl, o, zs, fs, rfl, h2, el2, by omega, by omega, fun r m1 m2 H3 s3 n3 h3 mx my => ?_⟩
    have kn : Kn es fs m1 m2 := ⟨nr, mx, my⟩
    have s13 := s1.trans (s2.trans s3)
    refine ⟨_, rfl, r, m1, m2, rfl, h3, (le _ _ _ kn).1, (le _ _ _ kn).2, ?_⟩
    refine ⟨_, rfl, o, zs, rfl, .inl ⟨SqL.of (s3 _ _ h2), fun t nt => ?_⟩⟩
    have st := Same.new (o := .tup zs) nt
    refine ⟨_, rfl, x, kc K, dx, [], rfl, st _ _ (s13 _ _ hx), T.cls, T.no_entries, by decide, ?_⟩
    refine ⟨_, rfl, _, rfl, x, kc K, dx, _, rfl, upd_same, T.cls, T.no_reach, (show (1 : Nat) < 1000 by decide), ?_⟩
    have nx : ∀ b u, H3 b = some u → b ≠ x → upd (upd (upd H3 t (.tup zs)) x (.ins (kc K) dx (putF "_entries" (.ref t) []))) x (.ins (kc K) dx (putF "_reach" (.ref r) (putF "_entries" (.ref t) []))) b = some u := fun b u hb ne => by
      rw [upd_ne ne, upd_ne ne]; exact st _ _ hb
    have ntx : t ≠ x := fun z => by
      subst z
      rw [s13 _ _ hx] at nt; cases nt
    have hx3 := s13 _ _ hx
    have nofo : ∀ b u, H3 b = some (.tup u) → b ≠ x := fun b u hb z => by
      subst z; rw [hx3] at hb; cases hb
    have ndx : dx ≠ x := fun z => by
      subst z; rw [hdx] at hx; cases hx
    refine k fs m1 m2 _ (fun b u hb ne => nx _ _ (s13 _ _ hb) ne) ⟨dx, t, r, zs, upd_same, nx _ _ (s13 _ _ hdx) ndx, ?_, ?_, nx _ _ h3 (nofo _ _ h3)⟩ kn
    · rw [upd_ne ntx, upd_ne ntx]; exact upd_same
    · refine .of_at (el2.len) fun i z e hz he => ?_
      obtain ⟨e', he', q⟩ := el2.at hz
      rw [he] at he'; cases he'
      obtain ⟨tt, rfl, ht⟩ := q.same s3
      exact ⟨tt, rfl, nx _ _ ht (nofo _ _ ht)⟩
end
end K12

set_option Elab.async false
set_option linter.all false
set_option maxRecDepth 100000
set_option maxHeartbeats 4000000
namespace K12
open PySem L2 Lay Own SrtO
local macro_rules | `(tactic| walk_at "ne") => `(tactic| first | assumption | (apply Ne.symm; assumption) | exact ne_of_none (by walk_at "look") (by assumption) | exact (ne_of_none (by walk_at "look") (by assumption)).symm)
local macro_rules | `(tactic| walk_at "look") => `(tactic| first | assumption | exact upd_same | (refine Eq.trans (upd_ne ?_) ?_; walk_at "ne"; walk_at "look"))
local macro_rules | `(tactic| walk_at "rds") => `(tactic| first | rfl | assumption | walk_at "look" | exact SqL.of (by walk_at "look") | exact SqT.of (by walk_at "look") | exact Or.inl (SqL.of (by walk_at "look")) | exact Or.inl (by assumption) | decide | omega | exact Nat.le_of_ble_eq_true rfl | exact Or.inr ⟨by decide, by decide⟩ | exact Or.inl ⟨by omega, by omega⟩ | exact ⟨by decide, by decide⟩)
local macro_rules | `(tactic| walk_at "rd1") => `(tactic| first | (apply Exists.intro) | (refine And.intro ?_ ?_; walk_at "rds") | (refine Or.inl ?_; apply Exists.intro; refine And.intro ?_ ?_; rfl))
local macro_rules | `(tactic| walk_at "rd") => `(tactic| repeat walk_at "rd1")
section
variable {P : Program} {w : World} {K : PySem.W.Frag} {mg : Str → Option Value} {base : Heap}
/-! of -/
def spOf (K : PySem.W.Frag) : Sp := fun vs H Q _ => ∃ a xs es, vs = [.ref a] ∧ (H a = some (.lst xs) ∨ H a = some (.tup xs)) ∧ EL H xs es ∧ EsOk es ∧ (∀ fs m1 m2, Kn es fs m1 m2 → m1 ≤ 3 ∧ m2 ≤ 3) ∧
  ∀ x fs m1 m2 H', L2.Same H H' → H x = none → KindAt K H' x fs m1 m2 → Kn es fs m1 m2 → Q (.ref x) H'
theorem d_of (T : Txt K mg) : MDf P w K mg base 9 (Kd.st K "of") ["entries"] (spOf K) := by
  have D_is_list := d_is_list (P := P) (w := w) (base := base) T
  refine T.M_of.by sc_Kind_of (fun vs H Q E h => ?_) (fun f cdv A outer s H vs Q E hr hgd h => ?_)
  · obtain ⟨a, xs, es, rfl, _⟩ := h; rfl
  · obtain ⟨a, xs, es, rfl, ha, el, ok, le, k⟩ := h
    refine ⟨_, (pss_cons (ps_if (pt_not (pt_val (pe_own D_is_list (hr.mono (by first | decide | omega)) hgd (pa_cons (pv 0) pa_nil)))) (pss_one ps_never) pss_nil)
      (pss_one (ps_ret (pe_makeS T.maker (d_init T) (hr.mono (by decide)) hgd T.g_Kind (pv 0))))), ?_⟩
    have ln := el.len
    have l1 := ok.l1
    refine ⟨_, rfl, a, xs, rfl, ha, fun H1 s1 => ?_⟩
    refine ⟨_, rfl, ?_⟩
    refine iteF ?_
    refine ⟨_, rfl, a, xs, rfl, ?_, fun x dx nx nd ne => ?_⟩
    · rcases ha with ha | ha
      · exact .inr (SqL.of (s1 _ _ ha))
      · exact .inl (SqT.of (s1 _ _ ha))
    refine ⟨[.ref x], xs, rfl, rfl, Nat.le_trans (m := 6) (by omega) (by decide), fun p np => ?_⟩
    have s2 : L2.Same H1 (upd (upd H1 dx (.own x)) x (.ins (kc K) dx [])) := Same.made nx nd fun b o e _ => e
    have s3 := Same.new (o := .tup xs) np
    have s4 := s1.trans (s2.trans s3)
    refine ⟨x, dx, p, xs, es, rfl, s3 _ _ upd_same, s3 _ _ ?_, upd_same, el.same s4, ok, le, fun fs m1 m2 H' keep kd kn => ?_⟩
    · rw [upd_ne ne]; exact upd_same
    · refine ⟨rfl, k x fs m1 m2 H' (fun b o hb => ?_) (s1.free nx) kd kn⟩
      exact keep b o (s4 _ _ hb) fun z => by
        subst z
        rw [s1 _ _ hb] at nx
        cases nx
end
end K12

set_option Elab.async false
set_option linter.all false
set_option maxRecDepth 100000
set_option maxHeartbeats 4000000
namespace K12
open PySem L2 Lay Own SrtO
local macro_rules | `(tactic| walk_at "ne") => `(tactic| first | assumption | (apply Ne.symm; assumption) | exact ne_of_none (by walk_at "look") (by assumption) | exact (ne_of_none (by walk_at "look") (by assumption)).symm)
local macro_rules | `(tactic| walk_at "look") => `(tactic| first | assumption | exact upd_same | (refine Eq.trans (upd_ne ?_) ?_; walk_at "ne"; walk_at "look"))
local macro_rules | `(tactic| walk_at "rds") => `(tactic| first | rfl | assumption | walk_at "look" | exact SqL.of (by walk_at "look") | exact SqT.of (by walk_at "look") | exact Or.inl (SqL.of (by walk_at "look")) | exact Or.inl (by assumption) | decide | omega | exact Nat.le_of_ble_eq_true rfl | exact Or.inr ⟨by decide, by decide⟩ | exact Or.inl ⟨by omega, by omega⟩ | exact ⟨by decide, by decide⟩)
local macro_rules | `(tactic| walk_at "rd1") => `(tactic| first | (apply Exists.intro) | (refine And.intro ?_ ?_; walk_at "rds") | (refine Or.inl ?_; apply Exists.intro; refine And.intro ?_ ?_; rfl))
local macro_rules | `(tactic| walk_at "rd") => `(tactic| repeat walk_at "rd1")
section
variable {P : Program} {w : World} {K : PySem.W.Frag} {mg : Str → Option Value} {base : Heap}
/-! simple methods -/
def spKEn (K : PySem.W.Frag) : Sp := fun vs H Q _ => ∃ a fs m1 m2, vs = [.ref a] ∧ KindAt K H a fs m1 m2 ∧ ∀ p zs H', L2.Same H H' → H p = none → H' p = some (.lst zs) → EL H' zs fs → Q (.ref p) H'
theorem d_entries (T : Txt K mg) : MDf P w K mg base 1 (He.ma K (kc K) "entries") ["self"] (spKEn K) := by
  refine T.M_entries.by sc_Kind_entries (fun vs H Q E h => ?_) (fun f cdv A outer s H vs Q E hr hgd h => ?_)
  · obtain ⟨a, fs, m1, m2, rfl, _⟩ := h; rfl
  · obtain ⟨a, fs, m1, m2, rfl, ⟨dx, t, r, zs, ha, hdx, ht, el, hrr⟩, k⟩ := h
    refine ⟨_, (pss_one (ps_ret (pe_callTy call_list_of (by rfl) T.n_list (by decide +kernel) (pa_cons (pe_fld (pv 0) rfl) pa_nil)))), ?_⟩
    refine ⟨_, rfl, a, kc K, dx, _, _, rfl, ha, T.cls, T.no_entries, rfl, ?_⟩
    refine ⟨t, zs, rfl, .inr (SqT.of ht), fun p np => ?_⟩
    have s := Same.new (o := .lst zs) np
    exact k p zs _ s np upd_same (el.same s)
end
end K12

set_option Elab.async false
set_option linter.all false
set_option maxRecDepth 100000
set_option maxHeartbeats 4000000
namespace K12
open PySem L2 Lay Own SrtO
local macro_rules | `(tactic| walk_at "ne") => `(tactic| first | assumption | (apply Ne.symm; assumption) | exact ne_of_none (by walk_at "look") (by assumption) | exact (ne_of_none (by walk_at "look") (by assumption)).symm)
local macro_rules | `(tactic| walk_at "look") => `(tactic| first | assumption | exact upd_same | (refine Eq.trans (upd_ne ?_) ?_; walk_at "ne"; walk_at "look"))
local macro_rules | `(tactic| walk_at "rds") => `(tactic| first | rfl | assumption | walk_at "look" | exact SqL.of (by walk_at "look") | exact SqT.of (by walk_at "look") | exact Or.inl (SqL.of (by walk_at "look")) | exact Or.inl (by assumption) | decide | omega | exact Nat.le_of_ble_eq_true rfl | exact Or.inr ⟨by decide, by decide⟩ | exact Or.inl ⟨by omega, by omega⟩ | exact ⟨by decide, by decide⟩)
local macro_rules | `(tactic| walk_at "rd1") => `(tactic| first | (apply Exists.intro) | (refine And.intro ?_ ?_; walk_at "rds") | (refine Or.inl ?_; apply Exists.intro; refine And.intro ?_ ?_; rfl))
local macro_rules | `(tactic| walk_at "rd") => `(tactic| repeat walk_at "rd1")
section
variable {P : Program} {w : World} {K : PySem.W.Frag} {mg : Str → Option Value} {base : Heap}
theorem un64 {k : Nat} {B : Around} (hr : Room k B) : B.units + 64 < cLine := by
  have := hr.un
  omega
/-! names -/
theorem keysPut_in {kvs : List (Key × V)} {k : Key} {v : V} (c : k ∈ kvs.map (·.1)) : (putK kvs k v).map (·.1) = kvs.map (·.1) := by
  unfold putK
  split
  · rw [List.map_map]
    refine List.map_congr_left fun p _ => ?_
    show (if p.1 = k then (p.1, v) else p).1 = p.1
    split <;> rfl
  · rename_i h
    refine absurd ?_ h
    obtain ⟨p, hp, e⟩ := List.mem_map.mp c
    exact List.any_eq_true.mpr ⟨p, hp, decide_eq_true e⟩
theorem keysPut_out {kvs : List (Key × V)} {k : Key} {v : V} (c : ¬ k ∈ kvs.map (·.1)) : (putK kvs k v).map (·.1) = kvs.map (·.1) ++ [k] := by
  unfold putK
  split
  · rename_i h
    refine absurd ?_ c
    obtain ⟨p, hp, e⟩ := List.any_eq_true.mp h
    exact List.mem_map.mpr ⟨p, hp, of_decide_eq_true e⟩
  · rw [List.map_append]; rfl
def strOf : V → Str
  | .str z => z
  | _ => ""
def NmI (fs : List Ent) (i : Nat) (kvs : List (Key × V)) : Prop := ∃ ns : List Str, kvs.map (·.1) = ns.map Sum.inr ∧ ns.Nodup ∧ (∀ z, z ∈ ns ↔ ∃ e ∈ fs.take i, e.2.2 = z) ∧ ns.length ≤ i
theorem NmI.step {fs : List Ent} {i : Nat} {kvs : List (Key × V)} {e : Ent} {v : V} (h : NmI fs i kvs) (he : fs[i]? = some e) : NmI fs (i + 1) (putK kvs (.inr e.2.2) v) := by
  obtain ⟨ns, h1, h2, h3, h4⟩ := h
  have tk : fs.take (i + 1) = fs.take i ++ [e] := by rw [List.take_add_one, he]; rfl
  have mm : ((Sum.inr e.2.2 : Key) ∈ kvs.map (·.1)) ↔ e.2.2 ∈ ns := by
    rw [h1, List.mem_map]
    constructor
    · rintro ⟨z, hz, q⟩; cases q; exact hz
    · intro hz; exact ⟨_, hz, rfl⟩
  by_cases c : e.2.2 ∈ ns
  · refine ⟨ns, by rw [keysPut_in (mm.mpr c)]; exact h1, h2, fun z => ?_, by omega⟩
    rw [h3, tk]
    constructor
    · rintro ⟨f, hf, q⟩; exact ⟨f, List.mem_append_left _ hf, q⟩
    · rintro ⟨f, hf, q⟩
      rcases List.mem_append.mp hf with hf | hf
      · exact ⟨f, hf, q⟩
      · rw [List.mem_singleton.mp hf] at q
        rw [q] at c
        exact (h3 z).mp c
  · refine ⟨ns ++ [e.2.2], by rw [keysPut_out (fun z => c (mm.mp z)), h1, List.map_append]; rfl, ?_, fun z => ?_, by rw [List.length_append]; show ns.length + 1 ≤ _; omega⟩
    · rw [List.nodup_append]
      refine ⟨h2, List.pairwise_singleton _ _, fun a ha b hb q => ?_⟩
      rw [List.mem_singleton] at hb
      subst hb; subst q
      exact c ha
    · rw [List.mem_append, h3, tk, List.mem_singleton]
      constructor
      · rintro (⟨f, hf, q⟩ | q)
        · exact ⟨f, List.mem_append_left _ hf, q⟩
        · exact ⟨e, List.mem_append_right _ (List.mem_singleton.mpr rfl), q.symm⟩
      · rintro ⟨f, hf, q⟩
        rcases List.mem_append.mp hf with hf | hf
        · exact .inl ⟨f, hf, q⟩
        · rw [List.mem_singleton.mp hf] at q; exact .inr q.symm
theorem strs_back {zs : List V} {ns : List Str} (p : zs.Perm (ns.map V.str)) : zs = (zs.map strOf).map V.str := by
  rw [List.map_map]
  refine (List.map_id zs).symm.trans (List.map_congr_left fun x hx => ?_)
  obtain ⟨n, _, rfl⟩ := List.mem_map.mp (p.mem_iff.mp hx)
  rfl
def NamesOf (fs : List Ent) (ns : List Str) : Prop := Sd strLt ns ∧ ns.Nodup ∧ ∀ z, z ∈ ns ↔ ∃ e ∈ fs, e.2.2 = z
def spNam (K : PySem.W.Frag) : Sp := fun vs H Q _ => ∃ a fs m1 m2, vs = [.ref a] ∧ KindAt K H a fs m1 m2 ∧ fs.length ≤ 8 ∧ ∀ p ns H', L2.Same H H' → H p = none → H' p = some (.lst (ns.map V.str)) → NamesOf fs ns → Q (.ref p) H'
theorem d_names (T : Txt K mg) : MDf P w K mg base 5 (He.ma K (kc K) "names") ["self"] (spNam K) := by
  have D_in_order := d_ord (P := P) (w := w) (base := base) T 3 (by decide)
  refine T.M_names.by sc_Kind_names (fun vs H Q E h => ?_) (fun f cdv A outer s H vs Q E hr hgd h => ?_)
  · obtain ⟨a, fs, m1, m2, rfl, _⟩ := h; rfl
  · obtain ⟨a, fs, m1, m2, rfl, ⟨dx, t, r, zs, ha, hdx, ht, el, hrr⟩, hl, k⟩ := h
    refine ⟨_, (pss_one (ps_ret (pe_own D_in_order (hr.mono (by first | decide | omega)) hgd (pa_cons (pe_callTy  (call_list_dK rfl) (by rfl) T.n_list (by decide +kernel) (pa_cons (pe_dc (own := [("entry", 1)]) rfl sc_Kind_names.nd (pi_tup (pe_fld (pv 0) rfl)) (blkOk_by (own := [("entry", 1)]) (N := ["self", "entry"]) (sc := defScope s_Kind_names) (by decide +kernel)) (fun _ _ _ _ _ => (pg_name (i := 1) sc_Kind_names.nd rfl (by first | exact Or.inl rfl | exact Or.inr rfl))) (fun _ _ _ _ _ => pts_nil) (fun _ _ _ _ _ => (pe_ix  (ix_tupK (C := K) rfl) (pv 1) pe_int (fun _ _ => rfl))) (fun _ _ _ _ _ => pe_bl)) pa_nil)) pa_nil)))), ?_⟩
    have ln := el.len
    refine ⟨_, rfl, a, kc K, dx, _, _, rfl, ha, T.cls, T.no_entries, rfl, t, rfl, ⟨_, SqT.of ht⟩, fun D nD => ?_⟩
    refine dc_tup (xs := zs) (fun i H' => L2.Same H H' ∧ ∃ kvs, H' D = some (.dK kvs) ∧ NmI fs i kvs) ⟨Same.new nD, [], upd_same, [], rfl, List.nodup_nil, fun z => by simp, Nat.le_refl _⟩ (fun i H' _ q => SqT.of (q.1 _ _ ht)) (fun i x H1 hx q => ?_) (fun H1 q => ?_)
    · obtain ⟨sm, kvs, hD, inv⟩ := q
      obtain ⟨e, he, u, rfl, hu⟩ := el.at hx
      have hu' := sm _ _ hu
      refine ⟨rfl, ?_⟩
      refine ⟨_, rfl, u, _, _, _, rfl, rfl, SqT.of hu', rfl, ?_⟩
      refine ⟨kvs, .inr e.2.2, rfl, hD, ?_, Same.mut sm nD, _, upd_same, inv.step he⟩
      obtain ⟨ns, h1, _, _, h4⟩ := inv
      have : kvs.length = ns.length := by rw [← List.length_map (f := (·.1)), h1, List.length_map]
      have := (List.getElem?_eq_some_iff.mp he).1
      exact Nat.lt_of_lt_of_le (m := 9) (by omega) (by decide)
    · obtain ⟨sm, kvs, hD, ns, h1, h2, h3, h4⟩ := q
      refine ⟨D, kvs, rfl, hD, fun q nq => ?_⟩
      have ek : kvs.map (fun kv => kV kv.1) = ns.map V.str := by
        have z : (kvs.map (·.1)).map kV = (ns.map Sum.inr).map kV := by rw [h1]
        rw [List.map_map, List.map_map] at z
        exact z
      rw [ek]
      refine ⟨q, ns.map V.str, fun x y => strLt (strOf x) (strOf y), rfl, SqL.of upd_same, Swo.on tot_str strOf, fun H2 s x hx y hy => ?_, by rw [List.length_map]; omega, fun ws p H2 s np hp pm sd => ?_⟩
      · obtain ⟨n, _, rfl⟩ := List.mem_map.mp hx
        obtain ⟨m, _, rfl⟩ := List.mem_map.mp hy
        exact .str n m
      · have eb := strs_back pm
        have s1 := sm.trans ((Same.new nq).trans s)
        rw [eb] at hp
        have pm2 : (ws.map strOf).Perm ns := by
          have z := pm.map strOf
          rw [List.map_map] at z
          have e : ns.map (strOf ∘ V.str) = ns := by rw [show (strOf ∘ V.str) = id from rfl, List.map_id]
          rw [e] at z; exact z
        refine k p (ws.map strOf) H2 s1 ((sm.trans (Same.new nq)).free np) hp ⟨List.Pairwise.map _ (fun a b h => h) sd, pm2.nodup_iff.mpr h2, fun z => ?_⟩
        rw [pm2.mem_iff, h3, List.take_of_length_le (by omega)]
/-! in -/
theorem It.notK (T : Txt K mg) {H : Hp} {y : V} (h : It K H y) (n : ∀ b d fl, y = .ref b → H b ≠ some (.ins (kc K) d fl)) : ∃ t, TyX K H y t ∧ PySem.W.kitOne K t (.ref (kc K)) = some false ∧ PySem.W.notFirst K (kc K) t = true := by
  cases h with
  | int i => exact ⟨_, .base (.int i), (T.kt "int" (by simp [Ty7])).1, (T.kt "int" (by simp [Ty7])).2.2⟩
  | str z h => exact ⟨_, .base (.str z), (T.kt "str" (by simp [Ty7])).1, (T.kt "str" (by simp [Ty7])).2.2⟩
  | non => exact ⟨_, .base .non, (T.kt "NoneType" (by simp [Ty7])).1, (T.kt "NoneType" (by simp [Ty7])).2.2⟩
  | bl b => exact ⟨_, .base (.bl b), (T.kt "bool" (by simp [Ty7])).1, (T.kt "bool" (by simp [Ty7])).2.2⟩
  | lst h => exact ⟨_, .base (.lst h), (T.kt "list" (by simp [Ty7])).1, (T.kt "list" (by simp [Ty7])).2.2⟩
  | tup h => exact ⟨_, .base (.tup h), (T.kt "tuple" (by simp [Ty7])).1, (T.kt "tuple" (by simp [Ty7])).2.2⟩
  | dct h => exact ⟨_, .base (.dK h), (T.kt "dict" (by simp [Ty7])).1, (T.kt "dict" (by simp [Ty7])).2.2⟩
  | own h => exact (n _ _ _ rfl h).elim
def spEqK (K : PySem.W.Frag) : Sp := fun vs H Q _ => ∃ a fs m1 m2 y, vs = [.ref a, y] ∧ KindAt K H a fs m1 m2 ∧ (∀ e ∈ fs, EOk e) ∧
  ((∃ b gs n1 n2, y = .ref b ∧ KindAt K H b gs n1 n2 ∧ (∀ e ∈ gs, EOk e) ∧ Q (.bl (decide (fs = gs))) H) ∨
   (It K H y ∧ (∀ b d fl, y = .ref b → H b ≠ some (.ins (kc K) d fl)) ∧ Q (.bl false) H))
theorem d_eq (T : Txt K mg) : MDf P w K mg base 1 (He.ma K (kc K) "__eq__") ["self", "other"] (spEqK K) := by
  refine T.M___eq__.by sc_Kind___eq (fun vs H Q E h => ?_) (fun f cdv A outer s H vs Q E hr hgd h => ?_)
  · obtain ⟨a, fs, m1, m2, x, rfl, _⟩ := h; rfl
  · obtain ⟨a, fs, m1, m2, y, rfl, ⟨dx, t, r, zs, ha, hdx, ht, el, hrr⟩, ok, h⟩ := h
    refine ⟨_, (pss_one (ps_ret (pe_and (pe_callB (Exv.call_isE T.gs) (by rfl) T.n_isinstance (by decide +kernel) (pa_cons (pv 1) (pa_cons (pe_glob (v := .ref (He.ga K "Kind")) (by rfl) T.g_Kind rfl) pa_nil))) (pe_one (pe_cmpR (op_eqD (un64 hr)) (pe_fld (pv 0) rfl) (pe_fld (pv 1) rfl) (nomark _)))))), ?_⟩
    rcases h with ⟨b, gs, n1, n2, rfl, ⟨dx2, t2, r2, zs2, ha2, hdx2, ht2, el2, hrr2⟩, ok2, k⟩ | ⟨hy, no, k⟩
    · refine ⟨_, rfl, .ref b, .ref (kc K), .ref (kc K), .ref (kc K), true, rfl, .own _, .base (own_ty T ha2), T.kk, true, rfl, iteT ?_⟩
      refine ⟨_, rfl, a, kc K, dx, _, _, rfl, ha, T.cls, T.no_entries, rfl, _, rfl, b, kc K, dx2, _, _, rfl, ha2, T.cls, T.no_entries, rfl, .tuple (fs.map eD), .tuple (gs.map eD), .tup (SqT.of ht) el.dp, .tup (SqT.of ht2) el2.dp, eDs_sh fun f hf => (ok f hf).2.2.2.2, eDs_sh fun f hf => (ok2 f hf).2.2.2.2, ?_⟩
      rw [eqvT]
      exact k
    · obtain ⟨ty, h1, h2, _⟩ := hy.notK T no
      exact ⟨_, rfl, y, .ref (kc K), ty, .ref (kc K), false, rfl, .own _, .base h1, h2, false, rfl, iteF k⟩
end
end K12

set_option Elab.async false
set_option linter.all false
set_option maxRecDepth 100000
set_option maxHeartbeats 4000000
namespace K12
open PySem L2 Lay Own SrtO
local macro_rules | `(tactic| walk_at "ne") => `(tactic| first | assumption | (apply Ne.symm; assumption) | exact ne_of_none (by walk_at "look") (by assumption) | exact (ne_of_none (by walk_at "look") (by assumption)).symm)
local macro_rules | `(tactic| walk_at "look") => `(tactic| first | assumption | exact upd_same | (refine Eq.trans (upd_ne ?_) ?_; walk_at "ne"; walk_at "look"))
local macro_rules | `(tactic| walk_at "rds") => `(tactic| first | rfl | assumption | walk_at "look" | exact SqL.of (by walk_at "look") | exact SqT.of (by walk_at "look") | exact Or.inl (SqL.of (by walk_at "look")) | exact Or.inl (by assumption) | decide | omega | exact Nat.le_of_ble_eq_true rfl | exact Or.inr ⟨by decide, by decide⟩ | exact Or.inl ⟨by omega, by omega⟩ | exact ⟨by decide, by decide⟩)
local macro_rules | `(tactic| walk_at "rd1") => `(tactic| first | (apply Exists.intro) | (refine And.intro ?_ ?_; walk_at "rds") | (refine Or.inl ?_; apply Exists.intro; refine And.intro ?_ ?_; rfl))
local macro_rules | `(tactic| walk_at "rd") => `(tactic| repeat walk_at "rd1")
section
variable {P : Program} {w : World} {K : PySem.W.Frag} {mg : Str → Option Value} {base : Heap}
/-! texts -/
def entTxt (e : Ent) : Str := tupleText [toString e.1, toString e.2.1, reprText e.2.2]
theorem name_small {z : Str} (h : nameB z = true) : ∀ c ∈ z.cps.toList, c < 16 ^ 8 := by
  intro c hc
  obtain ⟨i, hi⟩ := List.mem_iff_getElem?.mp hc
  have h2 : (lets z).all id = true := (Bool.and_eq_true_iff.mp h).2
  have hl : i < z.cps.size := by
    have := (List.getElem?_eq_some_iff.mp hi).1
    simpa using this
  have m : decide (z.cps.getD i 0 ∈ letters.cps.toList) ∈ lets z := List.mem_map.mpr ⟨i, List.mem_range.mpr hl, rfl⟩
  have d := of_decide_eq_true (show decide (z.cps.getD i 0 ∈ letters.cps.toList) = true from List.all_eq_true.mp h2 _ m)
  have e : z.cps.getD i 0 = c := by
    rw [Array.getElem?_toList] at hi
    simp [Array.getD, hl] at *
    exact hi
  rw [e] at d
  have a : ∀ x ∈ letters.cps.toList, x < 16 ^ 8 := by decide +kernel
  exact a c d
theorem int_len {i : Int} (h1 : -100 ≤ i) (h2 : i ≤ 100) : (Str.length ((toString i : String) : Str)) ≤ 4 := by
  have h : i.natAbs < 10 ^ 3 := by show i.natAbs < 1000; omega
  have e := int_text_length_le10 (a := i) (k := 3) (by decide) h
  rw [ofString_length]
  omega
theorem entTxt_len {e : Ent} (ok : EOk e) : (entTxt e).length ≤ 10100 := by
  obtain ⟨⟨b1, b2⟩, ⟨b3, b4⟩, nm, nl, no⟩ := ok
  have h := PySem.tupleText_len_le [((toString e.1 : String) : Str), ((toString e.2.1 : String) : Str), reprText e.2.2]
  have r := PySem.StrLaws.reprText_len e.2.2 (name_small nm)
  have i1 := int_len (i := e.1) (by omega) (by omega)
  have i2 := int_len (i := e.2.1) (by omega) (by omega)
  have h' : (entTxt e).length ≤ ([(Str.length ((toString e.1 : String) : Str)), (Str.length ((toString e.2.1 : String) : Str)), (reprText e.2.2).length]).sum + 2 * 3 + 3 := h
  simp only [List.sum_cons, List.sum_nil] at h'
  omega
theorem entsTxt_len {es : List Ent} (ok : ∀ e ∈ es, EOk e) (l : es.length ≤ 100) : (tupleText (es.map entTxt)).length ≤ 1100000 := by
  have h := PySem.tupleText_len_le (es.map entTxt)
  rw [List.map_map, List.length_map] at h
  have b : ∀ fs : List Ent, (∀ e ∈ fs, EOk e) → (fs.map ((·.length) ∘ entTxt)).sum ≤ 10100 * fs.length := by
    intro fs
    induction fs with
    | nil => intro _; simp
    | cons f fs ih =>
      intro hf
      have h1 := entTxt_len (hf f (List.mem_cons_self ..))
      have h2 := ih fun e he => hf e (List.mem_cons_of_mem _ he)
      simp only [List.map_cons, List.sum_cons, List.length_cons, Function.comp_apply] at *
      omega
  have := b es ok
  omega
theorem EntT.sw {H : Hp} {x : V} {e : Ent} (h : EntT H x e) (ok : EOk e) : ∃ t, x = .ref t ∧ H t = some (.tup [.int e.1, .int e.2.1, .str e.2.2]) ∧ Rp.Sw K H [t] x (entTxt e) := by
  obtain ⟨t, rfl, ht⟩ := h
  obtain ⟨⟨b1, b2⟩, ⟨b3, b4⟩, _⟩ := ok
  have lg : ∀ i : Int, -20 ≤ i → i ≤ 20 → i.natAbs.log2 < 1920 := fun i h1 h2 => by
    have h : i.natAbs < 2 ^ 10 := by show i.natAbs < 1024; omega
    rcases Nat.eq_zero_or_pos i.natAbs with z | z
    · rw [z]; decide
    · exact Nat.lt_trans ((Nat.log2_lt (by omega)).mpr h) (by decide)
  exact ⟨t, rfl, ht, .tup ht (.cons (.int _ (lg _ b1 b2)) (.cons (.int _ (lg _ b3 b4)) (.cons (.str _) .nil))) (by simp)⟩
theorem EL.swl {H : Hp} {xs : List V} {es : List Ent} (h : EL H xs es) (ok : ∀ e ∈ es, EOk e) : ∃ as, Rp.SwL K H as xs (es.map entTxt) ∧ as.length = es.length ∧ ∀ b ∈ as, ∃ e : Ent, H b = some (.tup [.int e.1, .int e.2.1, .str e.2.2]) := by
  induction h with
  | nil => exact ⟨[], .nil, rfl, by simp⟩
  | cons h _ ih =>
    rename_i x e xs es _
    obtain ⟨as, h1, h2, h3⟩ := ih fun f hf => ok f (List.mem_cons_of_mem _ hf)
    obtain ⟨t, rfl, ht, sw⟩ := EntT.sw (K := K) h (ok e (List.mem_cons_self ..))
    refine ⟨t :: as, .cons sw h1, by rw [List.length_cons, List.length_cons, h2], fun b hb => ?_⟩
    rcases List.mem_cons.mp hb with rfl | hb
    · exact ⟨e, ht⟩
    · exact h3 b hb
/-- no tuple of entries stands among the tuples that are its entries -/
theorem EL.off {H : Hp} {p : Addr} {zs : List V} {es : List Ent} {as : List Addr} (hp : H p = some (.tup zs) ∨ H p = some (.lst zs)) (h : EL H zs es) (ha : ∀ b ∈ as, ∃ e : Ent, H b = some (.tup [.int e.1, .int e.2.1, .str e.2.2])) : p ∉ as := by
  intro hm
  obtain ⟨e, he⟩ := ha p hm
  rcases hp with hp | hp
  · rw [hp] at he
    cases he
    cases h with
    | cons h _ =>
      obtain ⟨t, z, _⟩ := h
      cases z
  · rw [hp] at he
    cases he
end
end K12

set_option Elab.async false
set_option linter.all false
set_option maxRecDepth 100000
set_option maxHeartbeats 4000000
namespace K12
open PySem L2 Lay Own SrtO
local macro_rules | `(tactic| walk_at "ne") => `(tactic| first | assumption | (apply Ne.symm; assumption) | exact ne_of_none (by walk_at "look") (by assumption) | exact (ne_of_none (by walk_at "look") (by assumption)).symm)
local macro_rules | `(tactic| walk_at "look") => `(tactic| first | assumption | exact upd_same | (refine Eq.trans (upd_ne ?_) ?_; walk_at "ne"; walk_at "look"))
local macro_rules | `(tactic| walk_at "rds") => `(tactic| first | rfl | assumption | walk_at "look" | exact SqL.of (by walk_at "look") | exact SqT.of (by walk_at "look") | exact Or.inl (SqL.of (by walk_at "look")) | exact Or.inl (by assumption) | decide | omega | exact Nat.le_of_ble_eq_true rfl | exact Or.inr ⟨by decide, by decide⟩ | exact Or.inl ⟨by omega, by omega⟩ | exact ⟨by decide, by decide⟩)
local macro_rules | `(tactic| walk_at "rd1") => `(tactic| first | (apply Exists.intro) | (refine And.intro ?_ ?_; walk_at "rds") | (refine Or.inl ?_; apply Exists.intro; refine And.intro ?_ ?_; rfl))
local macro_rules | `(tactic| walk_at "rd") => `(tactic| repeat walk_at "rd1")
section
variable {P : Program} {w : World} {K : PySem.W.Frag} {mg : Str → Option Value} {base : Heap}
theorem d_draw (T : Txt K mg) : Df P w K mg base 1 "_law_draw" ["_law_pot_here", "_law_many"] spDraw := by
  refine draw_up (T.S_l_draw.by sc_l_draw (fun vs H Q E h => ?_) (fun f cdv A outer s H vs Q E hr hgd h => ?_)) rfl
  · obtain ⟨p, m, a, b, rfl, _⟩ := h; rfl
  · obtain ⟨p, m, a, b, rfl, hp, b0, b1, m0, m1, k⟩ := h
    refine ⟨_, (pss_cons (ps_if (pt_cmpR op_gt (pe_ix ix_list (pv 0) pe_int (fun _ _ => rfl)) pe_int (nomark _)) (pss_cons (ps_asg (pe_callB call_divmodW (by rfl) T.n_divmod (by decide +kernel) (pa_cons (pe_ix ix_list (pv 0) pe_int (fun _ _ => rfl)) (pa_cons (pv 1) pa_nil))) (pg_tup rfl (pgs_cons (pg_sub (pv 0) pe_int set_list) (pgs_cons (pg_name (i := 2) sc_l_draw.nd rfl (by first | exact Or.inl rfl | exact Or.inr rfl)) pgs_nil))))
      (pss_one (ps_ret (pv 2)))) pss_nil)
      (pss_cons (ps_asg (pe_op op_mod (pe_callTy call_int1 (by rfl) T.n_int (by decide +kernel) (pa_cons (pe_op op_add (pe_op op_mul (pe_ix ix_list (pv 0) pe_int (fun _ _ => rfl)) pe_int) pe_int) pa_nil)) pe_int) (pg_sub (pv 0) pe_int set_list))
      (pss_one (ps_ret (pe_op op_mod (pe_callTy call_int1 (by rfl) T.n_int (by decide +kernel) (pa_cons (pe_op op_fdiv (pe_op op_mod (pe_callTy call_int1 (by rfl) T.n_int (by decide +kernel) (pa_cons (pe_op op_mul (pe_ix ix_list (pv 0) pe_int (fun _ _ => rfl)) (pe_ix ix_list (pv 0) pe_int (fun _ _ => rfl))) pa_nil)) pe_int) pe_int) pa_nil)) (pv 1)))))), ?_⟩
    walk_at "rd"
    refine ite2 (fun _ => ?_) (fun _ => ?_)
    · walk_at "rd"
      refine And.intro ⟨m0, divs_ok m0 m1⟩ fun t ht => ?_
      walk_at "rd"
      refine k _ (a / m) b _ (Int.emod_nonneg _ (by omega)) (Int.emod_lt_of_pos _ m0) b0 b1 (fun q o n e => ?_) upd_same
      rw [upd_ne n, upd_ne (ne_of_none e ht)]; exact e
    · walk_at "rd"
      refine k _ a ((b * 48271 + 19937) % 2147483549) _ (Int.emod_nonneg _ (by omega)) (Int.emod_lt_of_pos _ m0) (Int.emod_nonneg _ (by decide)) (Int.lt_trans (Int.emod_lt_of_pos _ (by decide)) (by decide)) (fun q o n e => ?_) upd_same
      rw [upd_ne n]; exact e

theorem d_pot (T : Txt K mg) : Df P w K mg base 1 "_law_pot" ["_law_script", "_law_k"] (spPot K) := by
  refine pot_up (T.S_l_pot.by sc_l_pot (fun vs H Q E h => ?_) (fun f cdv A outer s H vs Q E hr hgd h => ?_)) rfl
  · obtain ⟨s, ns, i, rfl, _⟩ := h; rfl
  · obtain ⟨s, ns, i, rfl, hs, l1, i1, k⟩ := h
    refine ⟨_, (pss_cons (ps_set (i := 2) sc_l_pot.nd rfl (by first | exact Or.inl rfl | exact Or.inr rfl) (pe_op op_add (pe_op op_mul pe_int (pv 1)) pe_int))
      (pss_cons (ps_if (pt_cmpR op_lt (pv 1) (pe_callB call_len_seq (by rfl) T.n_len PySem.boot_len (pa_cons (pv 0) pa_nil)) (nomark _)) (pss_one (ps_set (i := 2) sc_l_pot.nd rfl (by first | exact Or.inl rfl | exact Or.inr rfl) (pe_callB call_abs (by rfl) T.n_abs (by decide +kernel) (pa_cons (pe_ix ix_list (pv 0) (pv 1) (fun _ _ => rfl)) pa_nil)))) pss_nil)
      (pss_one (ps_ret (pe_lst (pa_cons (pe_callB (call_max2 rfl) (by rfl) T.n_max (by decide +kernel) (pa_cons pe_int (pa_cons (pe_op op_sub (pv 2) (pe_op op_pow pe_int pe_int)) pa_nil))) (pa_cons (pe_op op_add (pe_op op_mod (pe_callTy call_int1 (by rfl) T.n_int (by decide +kernel) (pa_cons (pe_op op_add (pe_op op_add (pe_op op_mul (pe_op op_mod (pe_callTy call_int1 (by rfl) T.n_int (by decide +kernel) (pa_cons (pv 2) pa_nil)) pe_int) pe_int) (pe_op op_mul pe_int (pv 1))) pe_int) pa_nil)) pe_int) pe_int) pa_nil))))))), ?_⟩
    walk_at "rd"
    refine ite2 (fun c => ?_) (fun c => ?_)
    · have hi : i < ns.length := by
        have z := of_decide_eq_true c
        rw [List.length_map] at z
        omega
      have hn : (ns.map V.int)[i]? = some (V.int ns[i]) := by rw [List.getElem?_map, List.getElem?_eq_getElem hi]; rfl
      walk_at "rd"
      refine And.intro (at_of rfl hn) ?_
      walk_at "rd"
      intro p np
      exact k _ _ p _ (by omega) (by omega) np (Same.new np) upd_same
    · walk_at "rd"
      intro p np
      exact k _ _ p _ (by omega) (by omega) np (Same.new np) upd_same

/-! an index of a list by a draw -/
def spAmong (K : PySem.W.Frag) : Sp := fun vs H Q _ => ∃ (p a : Addr) (xs : List V), vs = [.ref p, .ref a] ∧ H p = some (PotO p) ∧ SqL K H a xs ∧ 0 < xs.length ∧ xs.length ≤ 100000 ∧ ∀ y H', y ∈ xs → L2.Same H H' → Q y H'
theorem d_among (T : Txt K mg) : Df P w K mg base 2 "_law_among" ["_law_pot_here", "_law_some"] (spAmong K) := by
  have D_l_draw := d_draw (P := P) (w := w) (base := base) T
  refine T.S_l_among.by sc_l_among (fun vs H Q E h => ?_) (fun f cdv A outer s H vs Q E hr hgd h => ?_)
  · obtain ⟨p, a, xs, rfl, _⟩ := h; rfl
  · obtain ⟨p, a, xs, rfl, hp, ha, l0, l1, k⟩ := h
    refine ⟨_, (pss_one (ps_ret (pe_ix ix_list (pv 1) (pe_own D_l_draw (hr.mono (by first | decide | omega)) hgd (pa_cons (pv 0) (pa_cons (pe_callB call_len_seq (by rfl) T.n_len PySem.boot_len (pa_cons (pv 1) pa_nil)) pa_nil))) (fun _ _ => rfl)))), ?_⟩
    refine ⟨_, rfl, _, rfl, _, rfl, a, xs, rfl, .inl ha, ?_⟩
    walk_at "rd"
    intro d H' d0 d1 e
    have hd : d.toNat < xs.length := by omega
    refine ⟨a, xs, d, _, rfl, rfl, e.seq ha, at_of (j := d.toNat) (by omega) (List.getElem?_eq_getElem hd), ?_⟩
    exact k _ H' (List.getElem_mem _) e
end
end K12

set_option Elab.async false
set_option linter.all false
set_option maxRecDepth 100000
set_option maxHeartbeats 4000000
namespace K12
open PySem L2 Lay Own SrtO TL
/-- one to eight letters -/
def Wd (z : Str) : Prop := 1 ≤ z.cps.toList.length ∧ z.cps.toList.length ≤ 8 ∧ ∀ c ∈ z.cps.toList, c ∈ letters.cps.toList
theorem Wd.name {z : Str} (h : Wd z) : nameB z = true := by
  obtain ⟨h1, h2, h3⟩ := h
  have e : z.length = z.cps.toList.length := by simp [Str.length]
  unfold nameB
  rw [decide_eq_true (show (1 : Int) ≤ (z.length : Int) by omega), decide_eq_true (show (z.length : Int) ≤ 8 by omega)]
  show (lets z).all id = true
  unfold lets
  rw [List.all_map, List.all_eq_true]
  intro i hi
  have hi := List.mem_range.mp hi
  refine decide_eq_true (h3 _ ?_)
  have : z.cps.getD i 0 = z.cps[i] := by simp [Array.getD, hi]
  rw [this]
  simp
theorem Wd.ok {z : Str} (h : Wd z) : PyData.strOk z = true := by
  unfold PyData.strOk
  rw [Array.all_eq_true_iff_forall_mem]
  intro c hc
  have a : ∀ x ∈ letters.cps.toList, x < 0x110000 := by decide +kernel
  exact decide_eq_true (a c (h.2.2 c (by simpa using hc)))
def sg (c : Nat) : Str := ⟨#[c]⟩
theorem sg_inj {c d : Nat} (h : sg c = sg d) : c = d := by
  have := congrArg (fun z : Str => z.cps.toList) h
  simpa [sg] using this
theorem joined (cs : List Nat) : (Txt.join "" (cs.map sg)).cps.toList = cs := by
  rw [join_eq]
  have h := tl_join "" (cs.map sg)
  have g : ∀ l : List Nat, joinL [] ((l.map sg).map tl) = l := by
    intro l
    induction l with
    | nil => rfl
    | cons a l ih =>
      cases l with
      | nil => rfl
      | cons b l => show tl (sg a) ++ ([] ++ joinL [] (((b :: l).map sg).map tl)) = a :: b :: l; rw [ih]; rfl
  exact h.trans (g cs)
theorem signs_of {Pc : Nat → Prop} : ∀ {ys : List V}, (∀ (i : Nat) y, ys[i]? = some y → ∃ c, Pc c ∧ y = .str (sg c)) → ∃ cs : List Nat, ys = (cs.map sg).map V.str ∧ ∀ c ∈ cs, Pc c
  | [], _ => ⟨[], rfl, fun c h => by cases h⟩
  | y :: ys, h => by
    obtain ⟨c, hc, rfl⟩ := h 0 y rfl
    obtain ⟨cs, e, hcs⟩ := signs_of (ys := ys) fun i z hz => h (i + 1) z (by simpa using hz)
    refine ⟨c :: cs, by rw [e]; rfl, fun d hd => ?_⟩
    rcases List.mem_cons.mp hd with rfl | hd
    · exact hc
    · exact hcs d hd
theorem sum_sg (cs : List Nat) : ((cs.map sg).map (fun x : Str => x.length)).sum = cs.length := by
  induction cs with
  | nil => rfl
  | cons c cs ih => simp only [List.map_cons, List.sum_cons, List.length_cons, ih]; show 1 + cs.length = _; omega
/-- the word with another sign behind its first seven -/
def vary (z : Str) (c : Nat) : Str := cutS z none (some 7) ++ sg c
theorem vary_tl (z : Str) (c : Nat) : (vary z c).cps.toList = z.cps.toList.take 7 ++ [c] := by
  unfold vary
  show tl (cutS z none (some ((7 : Nat) : Int)) ++ sg c) = _
  rw [tl_append]
  show (z.cps.toList.drop (HT.sIx z.length 0 none)).take (HT.sIx z.length z.length (some ((7 : Nat) : Int)) - HT.sIx z.length 0 none) ++ [c] = _
  rw [HT.sIx_nat, HT.sIx_none, List.drop_zero, Nat.sub_zero, len_tl z]
  congr 1
  show (tl z).take (min 7 (tl z).length) = (tl z).take 7
  by_cases q : 7 ≤ (tl z).length
  · rw [Nat.min_eq_left q]
  · rw [Nat.min_eq_right (by omega), List.take_of_length_le (Nat.le_refl _), List.take_of_length_le (by omega)]
theorem Wd.vary {z : Str} {c : Nat} (h : Wd z) (hc : c ∈ letters.cps.toList) : Wd (vary z c) := by
  unfold Wd
  rw [vary_tl, List.length_append, List.length_take]
  refine ⟨by show 1 ≤ _ + 1; omega, by show _ + 1 ≤ 8; omega, fun d hd => ?_⟩
  rcases List.mem_append.mp hd with hd | hd
  · exact h.2.2 d (List.mem_of_mem_take hd)
  · rw [List.mem_singleton.mp hd]; exact hc
theorem vary_inj {z : Str} {c d : Nat} (h : vary z c = vary z d) : c = d := by
  have := congrArg (fun z : Str => z.cps.toList) h
  simp only [vary_tl] at this
  have := List.append_cancel_left this
  simpa using this
/-- more unlike things than there are in the other list -/
theorem pigeon {α : Type} [DecidableEq α] : ∀ {l m : List α}, l.Nodup → m.length < l.length → ∃ x ∈ l, x ∉ m
  | [], m, _, h => by simp at h
  | a :: l, m, hn, h => by
    by_cases c : a ∈ m
    · have hl : (m.erase a).length < l.length := by
        rw [List.length_erase_of_mem c]
        have : 0 < m.length := List.length_pos_of_mem c
        simp at h; omega
      obtain ⟨x, hx, hm⟩ := pigeon (List.nodup_cons.mp hn).2 hl
      refine ⟨x, List.mem_cons_of_mem _ hx, fun z => hm ?_⟩
      exact (List.mem_erase_of_ne (fun e => (List.nodup_cons.mp hn).1 (by rw [← e]; exact hx))).mpr z
    · exact ⟨a, List.mem_cons_self .., c⟩
theorem inV_str (w : Str) (ns : List Str) : inV (.str w) (ns.map V.str) = decide (w ∈ ns) := by
  induction ns with
  | nil => rfl
  | cons n ns ih =>
    show (eqV (.str n) (.str w) || inV (.str w) (ns.map V.str)) = _
    rw [ih]
    show ((n == w) || decide (w ∈ ns)) = _
    by_cases h : w = n
    · subst h; simp
    · have h' : ¬ n = w := fun z => h z.symm
      simp [h, h']
theorem flat_str (ns : List Str) : (ns.map V.str).all flatV = true := by
  rw [List.all_map, List.all_eq_true]
  exact fun _ _ => rfl
theorem vals_of_at {α : Type} {f : α → Str} {cs : List α} {ys : List V} (hl : ys.length = cs.length) (h : ∀ (i : Nat) y, ys[i]? = some y → ∃ c, cs[i]? = some c ∧ y = .str (f c)) : ys = (cs.map f).map V.str := by
  apply List.ext_getElem?
  intro i
  rw [List.getElem?_map, List.getElem?_map]
  cases hy : ys[i]? with
  | none =>
    have : cs.length ≤ i := by rw [← hl]; exact List.getElem?_eq_none_iff.mp hy
    rw [List.getElem?_eq_none this]; rfl
  | some y =>
    obtain ⟨c, hc, rfl⟩ := h i y hy
    rw [hc]; rfl
theorem Wd.len {z : Str} (h : Wd z) : z.length ≤ 8 := by rw [len_tl z]; exact h.2.1
/-- all that may be the new word -/
def fresh (z : Str) : List Str := z :: letters.cps.toList.map (vary z)
theorem fresh_some {z : Str} {found : List Str} (h : found.length < 26) : (fresh z).filter (fun x => !decide (x ∈ found)) ≠ [] := by
  have hn : (letters.cps.toList.map (vary z)).Nodup := by
    rw [List.nodup_iff_pairwise_ne, List.pairwise_map]
    have : letters.cps.toList.Nodup := by decide +kernel
    exact List.Pairwise.imp (fun a e => a (vary_inj e)) this
  have hl : (letters.cps.toList.map (vary z)).length = 26 := by rw [List.length_map]; decide +kernel
  obtain ⟨x, hx, hm⟩ := pigeon (m := found) hn (by rw [hl]; exact h)
  intro e
  have : x ∈ (fresh z).filter (fun x => !decide (x ∈ found)) := List.mem_filter.mpr ⟨List.mem_cons_of_mem _ hx, by rw [decide_eq_false hm]; rfl⟩
  rw [e] at this
  cases this
theorem fresh_wd {z : Str} (h : Wd z) : ∀ x ∈ fresh z, Wd x := fun x hx => by
  rcases List.mem_cons.mp hx with rfl | hx
  · exact h
  · obtain ⟨c, hc, rfl⟩ := List.mem_map.mp hx
    exact h.vary hc
end K12

set_option Elab.async false
set_option linter.all false
set_option maxRecDepth 100000
set_option maxHeartbeats 4000000
namespace K12
open PySem L2 Lay Own SrtO
local macro_rules | `(tactic| walk_at "ne") => `(tactic| first | assumption | (apply Ne.symm; assumption) | exact ne_of_none (by walk_at "look") (by assumption) | exact (ne_of_none (by walk_at "look") (by assumption)).symm)
local macro_rules | `(tactic| walk_at "look") => `(tactic| first | assumption | exact upd_same | (refine Eq.trans (upd_ne ?_) ?_; walk_at "ne"; walk_at "look"))
local macro_rules | `(tactic| walk_at "rds") => `(tactic| first | rfl | assumption | walk_at "look" | exact SqL.of (by walk_at "look") | exact SqT.of (by walk_at "look") | exact Or.inl (SqL.of (by walk_at "look")) | exact Or.inl (by assumption) | decide | omega | exact Nat.le_of_ble_eq_true rfl | exact Or.inr ⟨by decide, by decide⟩ | exact Or.inl ⟨by omega, by omega⟩ | exact ⟨by decide, by decide⟩)
local macro_rules | `(tactic| walk_at "rd1") => `(tactic| first | (apply Exists.intro) | (refine And.intro ?_ ?_; walk_at "rds") | (refine Or.inl ?_; apply Exists.intro; refine And.intro ?_ ?_; rfl))
local macro_rules | `(tactic| walk_at "rd") => `(tactic| repeat walk_at "rd1")
section
variable {P : Program} {w : World} {K : PySem.W.Frag} {mg : Str → Option Value} {base : Heap}
theorem op_notInK {cx : Cx} {C : PySem.W.Frag} (h : cx.K = C) : OpR cx (compareOp .NotIn) (rIn C true) := h ▸ op_notIn_seq
/-! names -/
structure NsOk (ns : List Str) : Prop where
  nd : ns.Nodup
  ok : ∀ z ∈ ns, Wd z
def spNames (K : PySem.W.Frag) : Sp := fun vs H Q _ => ∃ (p : Addr) (n : Nat), vs = [.ref p, .int n] ∧ H p = some (PotO p) ∧ n ≤ 16 ∧ ∀ l ns H', L2.Same H H' → H l = none → H' l = some (.lst (ns.map V.str)) → NsOk ns → ns.length = n → Q (.ref l) H'
theorem d_lnames (T : Txt K mg) : Df P w K mg base 3 "_law_names" ["_law_pot_here", "_law_many"] (spNames K) := by
  have D_l_draw := d_draw (P := P) (w := w) (base := base) T
  have D_l_among := d_among (P := P) (w := w) (base := base) T
  refine T.S_l_names.by sc_l_names (fun vs H Q E h => ?_) (fun f cdv A outer s H vs Q E hr hgd h => ?_)
  · obtain ⟨p, n, rfl, _⟩ := h; rfl
  · obtain ⟨p, n, rfl, hp, ln, k⟩ := h
    refine ⟨_, (pss_cons (ps_asg (pe_tup (pa_cons pe_str (pa_cons (pe_lst pa_nil) pa_nil))) (pg_tup rfl (pgs_cons (pg_name (i := 2) sc_l_names.nd rfl (by first | exact Or.inl rfl | exact Or.inr rfl)) (pgs_cons (pg_name (i := 3) sc_l_names.nd rfl (by first | exact Or.inl rfl | exact Or.inr rfl)) pgs_nil))))
      (pss_cons (ps_for PassesOwn.never rfl (pi_range1 (by rfl) T.n_range (pa_cons (pv 1) pa_nil)) (pg_name (i := 4) sc_l_names.nd rfl (by first | exact Or.inl rfl | exact Or.inr rfl)) (pss_cons (ps_set (i := 5) sc_l_names.nd rfl (by first | exact Or.inl rfl | exact Or.inr rfl) (pe_op op_add pe_int (pe_own D_l_draw (hr.mono (by first | decide | omega)) hgd (pa_cons (pv 0) (pa_cons (pe_own D_l_among (hr.mono (by first | decide | omega)) hgd (pa_cons (pv 0) (pa_cons (pe_lst (pa_cons pe_int (pa_cons pe_int (pa_cons pe_int (pa_cons pe_int pa_nil))))) pa_nil))) pa_nil)))))
      (pss_cons (ps_set (i := 6) sc_l_names.nd rfl (by first | exact Or.inl rfl | exact Or.inr rfl) (pe_join pe_str (pe_lc (own := [("_law_sign", 8)]) rfl sc_l_names.nd (pi_range1 (by rfl) T.n_range (pa_cons (pv 5) pa_nil)) (blkOk_by (own := [("_law_sign", 8)]) (N := ["_law_pot_here", "_law_many", "_law_letters", "_law_found", "_law_turn", "_law_far", "_law_word", "_law_fresh", "_law_sign", "_law_one"]) (sc := defScope s_l_names) (by decide +kernel)) (fun _ _ _ _ _ => (pg_name (i := 8) sc_l_names.nd rfl (by first | exact Or.inl rfl | exact Or.inr rfl))) (fun _ _ _ _ _ => pts_nil) (fun _ _ _ _ _ => (pe_ix ix_str (pv 2) (pe_own D_l_draw (hr.mono (by first | decide | omega)) hgd (pa_cons (pv 0) (pa_cons pe_int pa_nil))) (fun _ _ => rfl))))))
      (pss_cons (ps_set (i := 7) sc_l_names.nd rfl (by first | exact Or.inl rfl | exact Or.inr rfl) (pe_op op_cat (pe_lst (pa_cons (pv 6) pa_nil)) (pe_lc (own := [("_law_sign", 8)]) rfl sc_l_names.nd (pi_str (pv 2)) (blkOk_by (own := [("_law_sign", 8)]) (N := ["_law_pot_here", "_law_many", "_law_letters", "_law_found", "_law_turn", "_law_far", "_law_word", "_law_fresh", "_law_sign", "_law_one"]) (sc := defScope s_l_names) (by decide +kernel)) (fun _ _ _ _ _ => (pg_name (i := 8) sc_l_names.nd rfl (by first | exact Or.inl rfl | exact Or.inr rfl))) (fun _ _ _ _ _ => pts_nil) (fun _ _ _ _ _ => (pe_op op_add_str (pe_slice sl_str (pv 6) po_none (po_some pe_int)) (pv 8))))))
      (pss_one (ps_expr (pe_bm PySem.F.plainAttrs_list PySem.F.slot_list_append PySem.F.type_list_append mt_append (pv 3) (pa_cons (pe_ix ix_list (pe_lc (own := [("_law_one", 9)]) rfl sc_l_names.nd (pi_list (pv 7)) (blkOk_by (own := [("_law_one", 9)]) (N := ["_law_pot_here", "_law_many", "_law_letters", "_law_found", "_law_turn", "_law_far", "_law_word", "_law_fresh", "_law_sign", "_law_one"]) (sc := defScope s_l_names) (by decide +kernel)) (fun _ _ _ _ _ => (pg_name (i := 9) sc_l_names.nd rfl (by first | exact Or.inl rfl | exact Or.inr rfl))) (fun _ _ _ _ _ => pts_one (pt_cmpR (op_notInK (C := K) rfl) (pv 9) (pv 3) (by rfl))) (fun _ _ _ _ _ => (pv 9))) pe_int (fun _ _ => rfl)) pa_nil))))))))
      (pss_one (ps_ret (pv 3))))), ?_⟩
    walk_at "rd"
    intro o no
    walk_at "rd"
    intro t nt
    have s0 : L2.Same H (upd (upd H o (.lst [])) t (.tup [V.str "abcdefghijklmnopqrstuvwxyz", .ref o])) := (Same.new no).trans (Same.new nt)
    have o0 : (upd (upd H o (.lst [])) t (.tup [V.str "abcdefghijklmnopqrstuvwxyz", .ref o])) o = some (.lst []) := by
      rw [upd_ne (fun z => by rw [← z, upd_same] at nt; cases nt)]; exact upd_same
    refine ⟨t, _, rfl, SqT.of upd_same, rfl, _, _, rfl, _, _, rfl, rfl, ?_⟩
    refine ⟨_, rfl, n, rfl, by omega, by omega, ?_⟩
    refine for_it walk_range (fun i σ H' => ∃ (a4 a5 a6 a7 a8 a9 : Option V) (ns : List Str), σ = [some (.ref p), some (.int n), some (.str letters), some (.ref o), a4, a5, a6, a7, a8, a9] ∧ L2.Same H H' ∧ H' o = some (.lst (ns.map V.str)) ∧ NsOk ns ∧ ns.length = i)
      ⟨_, _, _, _, _, _, [], rfl, s0, o0, ⟨List.nodup_nil, fun z hz => by cases hz⟩, rfl⟩ (fun _ _ _ _ _ => trivial) (fun i x σ H1 H2 hi hP y => ?_) (fun σ H1 hP => ?_)
    · obtain ⟨a4, a5, a6, a7, a8, a9, ns, rfl, s1, ho, ok, ln⟩ := hP
      obtain ⟨rfl, rfl⟩ := y
      walk_at "rd"
      intro l nl
      have t1 := s1.trans (Same.new (o := .lst [V.int 1, V.int 2, V.int 3, V.int 8]) nl)
      refine ⟨p, l, _, rfl, t1 _ _ hp, SqL.of upd_same, by decide, by decide, fun y H3 hy s3 => ?_⟩
      have hj : ∃ j : Int, y = .int j ∧ 1 ≤ j ∧ j ≤ 8 := by
        simp only [List.mem_cons, List.not_mem_nil, or_false] at hy
        rcases hy with rfl | rfl | rfl | rfl <;> exact ⟨_, rfl, by decide, by decide⟩
      obtain ⟨j, rfl, j1, j8⟩ := hj
      have t2 := t1.trans s3
      refine ⟨p, j, rfl, t2 _ _ hp, by omega, Int.lt_of_le_of_lt j8 (by decide), fun d H4 d0 d1 s4 => ?_⟩
      have t3 := t2.trans s4
      refine ⟨1, d, rfl, rfl, ?_⟩
      refine ⟨⟨_, rfl⟩, _, rfl, 1 + d, rfl, by omega, by omega, fun D nD => ?_⟩
      refine lc_pure walk_range nD (by omega) (fun _ _ => trivial) (fun i y => ∃ c, c ∈ letters.cps.toList ∧ y = .str (sg c)) (fun i x H5 H6 Kn Z hi sm y q => ?_) (fun H5 ys sm hD hl hr => ?_)
      · obtain ⟨rfl, rfl⟩ := y
        refine ⟨rfl, ?_⟩
        refine ⟨_, rfl, _, rfl, p, 26, rfl, (t3.trans sm) _ _ hp, by decide, by decide, fun d2 H7 e0 e1 s7 => ?_⟩
        have hd : d2.toNat < letters.cps.toList.length := by
          have : letters.cps.toList.length = 26 := by decide +kernel
          omega
        refine ⟨letters, d2, letters.cps.toList[d2.toNat], rfl, rfl, by decide +kernel, (congrArg (atI letters.cps.toList) (show d2 = ((d2.toNat : Nat) : Int) by omega)).trans (atI_nat (List.getElem?_eq_getElem hd)), ?_⟩
        exact q _ _ s7 ⟨_, List.getElem_mem _, rfl⟩
      · obtain ⟨cs, rfl, hcs⟩ := signs_of hr
        have lc : cs.length = (1 + d).toNat := by rw [← hl, List.length_map, List.length_map]
        refine ⟨"", D, cs.map sg, rfl, rfl, .inl (SqL.of hD), ?_, ?_⟩
        · rw [sum_sg, List.length_map]
          show cs.length + cs.length * 0 ≤ _
          omega
        have wz : Wd (Txt.join "" (cs.map sg)) := by
          unfold Wd
          rw [joined]
          exact ⟨by omega, by omega, hcs⟩
        generalize Txt.join "" (cs.map sg) = z at wz
        have t4 := t3.trans sm
        walk_at "rd"
        intro l2 nl2
        have t5 := t4.trans (Same.new (o := .lst [V.str z]) nl2)
        refine ⟨_, rfl, letters, rfl, fun D2 nD2 => ?_⟩
        refine lc_pure walk_str nD2 (by decide +kernel) (fun _ _ => trivial) (fun i y => ∃ c, letters.cps.toList[i]? = some c ∧ y = .str (vary z c)) (fun i x H6 H7 Kn Z hi sm6 y q => ?_) (fun H6 ys sm6 hD2 hl2 hr2 => ?_)
        · obtain ⟨rfl, c, hc, rfl⟩ := y
          refine ⟨rfl, ?_⟩
          walk_at "rd"
          have hc2 : letters.cps.toList[i]? = some c := by rw [Array.getElem?_toList]; exact hc
          have lv := (wz.vary (List.mem_of_getElem? hc2)).len
          have le : (vary z c).length = (cutS z none (some 7)).length + (sg c).length := strLen_append _ _
          refine ⟨Nat.le_trans wz.len (by decide), _, rfl, cutS z none (some 7), sg c, rfl, rfl, Nat.le_trans (m := 8) (by omega) (by decide), q _ _ (Same.refl _) ⟨c, hc2, rfl⟩⟩
        · obtain rfl := vals_of_at (cs := letters.cps.toList) (f := vary z) hl2 hr2
          have t6 := t5.trans sm6
          have h2 : H6 l2 = some (.lst [V.str z]) := sm6 _ _ upd_same
          refine ⟨l2, D2, [V.str z], _, rfl, rfl, h2, hD2, ?_, fun l3 nl3 => ?_⟩
          · rw [List.length_map, List.length_map]
            show 1 + letters.cps.toList.length ≤ sizeLine
            decide +kernel
          have v6 : L2.Same H2 H6 := (Same.new nl).trans (s3.trans (s4.trans (sm.trans ((Same.new nl2).trans sm6))))
          have s7 : L2.Same H6 (upd H6 l3 (.lst ([V.str z] ++ (letters.cps.toList.map (vary z)).map V.str))) := Same.new nl3
          have h7 : (upd H6 l3 (.lst ([V.str z] ++ (letters.cps.toList.map (vary z)).map V.str))) l3 = some (.lst ((fresh z).map V.str)) := upd_same
          generalize upd H6 l3 (.lst ([V.str z] ++ (letters.cps.toList.map (vary z)).map V.str)) = H7 at s7 h7
          have t7 := t6.trans s7
          have ho7 : H7 o = some (.lst (ns.map V.str)) := s7 _ _ (v6 _ _ ho)
          refine ⟨_, rfl, ty_lst ho7, ?_⟩
          refine ⟨_, rfl, l3, rfl, ⟨_, SqL.of h7⟩, fun D4 nD4 => ?_⟩
          refine lc_it (walk_list (xs := (fresh z).map V.str)) (fun i H' => L2.Same H7 H' ∧ H' D4 = some (.lst ((((fresh z).take i).filter (fun x => !decide (x ∈ ns))).map V.str))) ⟨Same.new nD4, upd_same⟩ (fun i H' _ q => SqL.of (q.1 _ _ h7)) (fun i x H8 H9 hi q y => ?_) (fun H8 q => ?_)
          · obtain ⟨s8, h8⟩ := q
            obtain ⟨rfl, hx⟩ := y
            rw [List.getElem?_map] at hx
            obtain ⟨w', hw, rfl⟩ := Option.map_eq_some_iff.mp hx
            refine ⟨rfl, ?_⟩
            have tk : (fresh z).take (i + 1) = (fresh z).take i ++ [w'] := by rw [List.take_add_one, hw]; rfl
            refine ⟨_, rfl, _, rfl, o, ns.map V.str, rfl, .inl (SqL.of (s8 _ _ ho7)), rfl, flat_str ns, _, rfl, ?_⟩
            rw [inV_str]
            refine ite2 (fun c => ?_) (fun c => ?_)
            · refine ⟨_, rfl, _, h8, ?_, Same.mut s8 nD4, ?_⟩
              · rw [List.length_map]
                refine Nat.lt_of_le_of_lt (List.length_filter_le _ _) (Nat.lt_of_le_of_lt (List.length_take_le' _ _) ?_)
                show (letters.cps.toList.map (vary z)).length + 1 < sizeLine
                rw [List.length_map]; decide +kernel
              · rw [tk, List.filter_append, List.map_append]
                have e : [w'].filter (fun x => !decide (x ∈ ns)) = [w'] := by
                  have c : (!decide (w' ∈ ns)) = true := c
                  simp only [List.filter, c]
                rw [e]; exact upd_same
            · refine ⟨s8, ?_⟩
              rw [tk, List.filter_append]
              have e : [w'].filter (fun x => !decide (x ∈ ns)) = [] := by
                have c : (!decide (w' ∈ ns)) = false := Bool.eq_false_iff.mpr c
                simp only [List.filter, c]
              rw [e, List.append_nil]; exact h8
          · obtain ⟨s8, h8⟩ := q
            rw [List.length_map, List.take_length] at h8
            have ne := fresh_some (z := z) (found := ns) (by omega)
            generalize hf : (fresh z).filter (fun x => !decide (x ∈ ns)) = ff at ne h8
            cases ff with
            | nil => exact (ne rfl).elim
            | cons w' rest =>
              have hm : w' ∈ (fresh z).filter (fun x => !decide (x ∈ ns)) := by rw [hf]; exact List.mem_cons_self ..
              obtain ⟨m1, m2⟩ := List.mem_filter.mp hm
              have m3 : ¬ w' ∈ ns := fun z => by rw [decide_eq_true z] at m2; cases m2
              refine ⟨D4, _, 0, .str w', rfl, rfl, SqL.of h8, (show atI _ ((0 : Nat) : Int) = _ from atI_nat rfl), ?_⟩
              refine ⟨o, ns.map V.str, .str w', rfl, rfl, s8 _ _ ho7, ?_, ?_⟩
              · rw [List.length_map]; exact Nat.lt_of_le_of_lt (m := 16) (by omega) (by decide)
              refine ⟨_, _, _, _, _, _, ns ++ [w'], rfl, Same.mut (t7.trans s8) no, ?_, ⟨?_, ?_⟩, ?_⟩
              · rw [List.map_append]; exact upd_same
              · rw [List.nodup_append]
                refine ⟨ok.nd, List.pairwise_singleton _ _, fun a ha b hb q => ?_⟩
                rw [List.mem_singleton] at hb
                subst hb; subst q
                exact m3 ha
              · intro x hx
                rcases List.mem_append.mp hx with hx | hx
                · exact ok.ok x hx
                · rw [List.mem_singleton.mp hx]; exact fresh_wd wz _ m1
              · rw [List.length_append, ln]; rfl
    · obtain ⟨a4, a5, a6, a7, a8, a9, ns, rfl, s1, ho, ok, ln⟩ := hP
      refine ⟨_, rfl, ?_⟩
      exact k o ns H1 s1 no ho ok (by omega)
end
end K12

set_option Elab.async false
set_option linter.all false
set_option maxRecDepth 100000
set_option maxHeartbeats 4000000
namespace K12
open PySem L2 Lay Own SrtO
local macro_rules | `(tactic| walk_at "ne") => `(tactic| first | assumption | (apply Ne.symm; assumption) | exact ne_of_none (by walk_at "look") (by assumption) | exact (ne_of_none (by walk_at "look") (by assumption)).symm)
local macro_rules | `(tactic| walk_at "look") => `(tactic| first | assumption | exact upd_same | (refine Eq.trans (upd_ne ?_) ?_; walk_at "ne"; walk_at "look"))
local macro_rules | `(tactic| walk_at "rds") => `(tactic| first | rfl | assumption | walk_at "look" | exact SqL.of (by walk_at "look") | exact SqT.of (by walk_at "look") | exact Or.inl (SqL.of (by walk_at "look")) | exact Or.inl (by assumption) | decide | omega | exact Nat.le_of_ble_eq_true rfl | exact Or.inr ⟨by decide, by decide⟩ | exact Or.inl ⟨by omega, by omega⟩ | exact ⟨by decide, by decide⟩)
local macro_rules | `(tactic| walk_at "rd1") => `(tactic| first | (apply Exists.intro) | (refine And.intro ?_ ?_; walk_at "rds") | (refine Or.inl ?_; apply Exists.intro; refine And.intro ?_ ?_; rfl))
local macro_rules | `(tactic| walk_at "rd") => `(tactic| repeat walk_at "rd1")
section
variable {P : Program} {w : World} {K : PySem.W.Frag} {mg : Str → Option Value} {base : Heap}
/-! the law's normed -/
def spLNrm (K : PySem.W.Frag) : Sp := fun vs H Q _ => ∃ a xs es, vs = [.ref a] ∧ H a = some (.lst xs) ∧ EL H xs es ∧ 0 < es.length ∧ es.length ≤ 64 ∧
  ∀ p zs fs H', L2.Same H H' → H p = none → H' p = some (.lst zs) → EL H' zs fs → Nrm es fs → Q (.ref p) H'
theorem d_lnormed (T : Txt K mg) : Df P w K mg base 1 "_law_normed" ["_law_some"] (spLNrm K) := by
  refine T.S_l_normed.by sc_l_normed (fun vs H Q E h => ?_) (fun f cdv A outer s H vs Q E hr hgd h => ?_)
  · obtain ⟨a, xs, es, rfl, _⟩ := h; rfl
  · obtain ⟨a, xs, es, rfl, ha, el, l0, l1, k⟩ := h
    refine ⟨_, (pss_cons (ps_asg (pe_tup (pa_cons (pe_callB  (cr_min rfl) (by rfl) T.n_min (by decide +kernel) (pa_cons (pe_lc (own := [("_law_part_here", 3)]) rfl sc_l_normed.nd (pi_list (pv 0)) (blkOk_by (own := [("_law_part_here", 3)]) (N := ["_law_some", "_law_left", "_law_low", "_law_part_here"]) (sc := defScope s_l_normed) (by decide +kernel)) (fun _ _ _ _ _ => (pg_name (i := 3) sc_l_normed.nd rfl (by first | exact Or.inl rfl | exact Or.inr rfl))) (fun _ _ _ _ _ => pts_nil) (fun _ _ _ _ _ => (pe_ix  (ix_tupK (C := K) rfl) (pv 3) pe_int (fun _ _ => rfl)))) pa_nil)) (pa_cons (pe_callB  (cr_min rfl) (by rfl) T.n_min (by decide +kernel) (pa_cons (pe_lc (own := [("_law_part_here", 3)]) rfl sc_l_normed.nd (pi_list (pv 0)) (blkOk_by (own := [("_law_part_here", 3)]) (N := ["_law_some", "_law_left", "_law_low", "_law_part_here"]) (sc := defScope s_l_normed) (by decide +kernel)) (fun _ _ _ _ _ => (pg_name (i := 3) sc_l_normed.nd rfl (by first | exact Or.inl rfl | exact Or.inr rfl))) (fun _ _ _ _ _ => pts_nil) (fun _ _ _ _ _ => (pe_ix  (ix_tupK (C := K) rfl) (pv 3) pe_int (fun _ _ => rfl)))) pa_nil)) pa_nil))) (pg_tup rfl (pgs_cons (pg_name (i := 1) sc_l_normed.nd rfl (by first | exact Or.inl rfl | exact Or.inr rfl)) (pgs_cons (pg_name (i := 2) sc_l_normed.nd rfl (by first | exact Or.inl rfl | exact Or.inr rfl)) pgs_nil))))
      (pss_one (ps_ret (pe_callB  cr_sortE (by rfl) T.n_sorted (by decide +kernel) (pa_cons (pe_lc (own := [("_law_part_here", 3)]) rfl sc_l_normed.nd (pi_list (pv 0)) (blkOk_by (own := [("_law_part_here", 3)]) (N := ["_law_some", "_law_left", "_law_low", "_law_part_here"]) (sc := defScope s_l_normed) (by decide +kernel)) (fun _ _ _ _ _ => (pg_name (i := 3) sc_l_normed.nd rfl (by first | exact Or.inl rfl | exact Or.inr rfl))) (fun _ _ _ _ _ => pts_nil) (fun _ _ _ _ _ => (pe_tup (pa_cons (pe_op op_sub (pe_ix  (ix_tupK (C := K) rfl) (pv 3) pe_int (fun _ _ => rfl)) (pv 1)) (pa_cons (pe_op op_sub (pe_ix  (ix_tupK (C := K) rfl) (pv 3) pe_int (fun _ _ => rfl)) (pv 2)) (pa_cons (pe_ix  (ix_tupK (C := K) rfl) (pv 3) pe_int (fun _ _ => rfl)) pa_nil)))))) pa_nil))))), ?_⟩
    have ln := el.len
    refine ⟨_, rfl, a, rfl, ⟨_, SqL.of ha⟩, fun D nD => ?_⟩
    refine lc_pure (walk_list (xs := xs)) nD (by omega) (fun _ sm => SqL.of (sm _ _ ha)) (fun i y => ∃ e, es[i]? = some e ∧ y = .int e.1) (fun i x H4 H5 Kn Z hi sm y q => ?_) (fun H4 ys sm hD hl hr => ?_)
    · obtain ⟨rfl, hx⟩ := y
      obtain ⟨e, he, t, rfl, ht⟩ := el.at hx
      have ht' := sm _ _ ht
      walk_at "rd"
      exact q _ _ (Same.refl _) ⟨e, he, rfl⟩
    · obtain rfl := ints_of (hl.trans ln) hr
      refine ⟨D, es.map (·.1), rfl, SqL.of hD, by rw [List.length_map]; exact l0, fun lo hm hle => ?_⟩
      refine ⟨_, rfl, a, rfl, ⟨_, SqL.of (sm _ _ ha)⟩, fun D2 nD2 => ?_⟩
      refine lc_pure (walk_list (xs := xs)) nD2 (by omega) (fun _ sm2 => SqL.of (sm2 _ _ (sm _ _ ha))) (fun i y => ∃ e, es[i]? = some e ∧ y = .int e.2.1) (fun i x H5 H6 Kn Z hi sm2 y q => ?_) (fun H5 ys sm2 hD2 hl2 hr2 => ?_)
      · obtain ⟨rfl, hx⟩ := y
        obtain ⟨e, he, t, rfl, ht⟩ := el.at hx
        have ht' := sm2 _ _ (sm _ _ ht)
        walk_at "rd"
        exact q _ _ (Same.refl _) ⟨e, he, rfl⟩
      · obtain rfl := ints_of (hl2.trans ln) hr2
        refine ⟨D2, es.map (·.2.1), rfl, SqL.of hD2, by rw [List.length_map]; exact l0, fun bo hm2 hle2 => ?_⟩
        have s2 := sm.trans sm2
        refine ⟨by show (2 : Nat) ≤ sizeLine; decide +kernel, fun t nt => ?_⟩
        have s3 := s2.trans (Same.new (o := .tup [V.int lo, V.int bo]) nt)
        refine ⟨t, _, rfl, SqT.of upd_same, rfl, _, _, rfl, _, _, rfl, rfl, ?_⟩
        refine ⟨_, rfl, a, rfl, ⟨_, SqL.of (s3 _ _ ha)⟩, fun D3 nD3 => ?_⟩
        refine lc_depI (walk_list (xs := xs)) nD3 (by omega) (fun _ sm3 => SqL.of (sm3 _ _ (s3 _ _ ha))) (fun i H v => ∃ e, es[i]? = some e ∧ EntT H v (mv lo bo e)) (fun i H H' v s ⟨e, he, h⟩ => ⟨e, he, h.same s⟩) (fun i H xs ys v hD ⟨e, he, h⟩ => ⟨e, he, h.mut hD⟩) (fun i x H6 H7 Kn Z hi sm3 _ y q => ?_) (fun H6 ys sm3 hD3 hl3 hr3 => ?_)
        · obtain ⟨rfl, hx⟩ := y
          obtain ⟨e, he, u, rfl, hu⟩ := el.at hx
          have hu' := sm3 _ _ (s3 _ _ hu)
          walk_at "rd"
          exact fun p np => q _ _ (Same.new np) ⟨e, he, p, rfl, upd_same⟩
        · have s4 := s3.trans sm3
          have el3 : EL H6 ys (es.map (mv lo bo)) := el_of (hl3.trans ln) hr3
          refine ⟨D3, ys, _, rfl, SqL.of hD3, el3, fun zs fs p el4 sd pm np => ?_⟩
          exact k p zs fs _ (s4.trans (Same.new np)) (s4.free np) upd_same (el4.same (Same.new np)) ⟨lo, bo, ⟨hm, hle⟩, ⟨hm2, hle2⟩, pm, sd⟩
/-! far -/
theorem sIx_of {d : Int} {n : Nat} (h0 : 0 ≤ d) (h1 : d < n) : seqIndex? d n = some d.toNat := by
  unfold seqIndex?
  have e : ¬ d < 0 := by omega
  simp [e, h0, h1]
theorem erase_perm {α : Type} : ∀ {l : List α} {k : Nat} (h : k < l.length), (l[k] :: l.eraseIdx k).Perm l
  | a :: l, 0, _ => List.Perm.refl _
  | a :: l, k + 1, h => by
    have ih := erase_perm (l := l) (k := k) (by simpa using h)
    show ((a :: l)[k + 1] :: a :: l.eraseIdx k).Perm (a :: l)
    exact (List.Perm.swap _ _ _).trans (List.Perm.cons _ ih)
theorem decV {i j : Int} : decide (V.int i = V.int j) = decide (i = j) := by
  by_cases h : i = j
  · rw [h]; simp
  · rw [decide_eq_false h]; exact decide_eq_false fun z => h (V.int.inj z)
end
end K12

set_option Elab.async false
set_option linter.all false
set_option maxRecDepth 100000
set_option maxHeartbeats 4000000
namespace K12
open PySem L2 Lay Own SrtO
structure Due (es : List Ent) : Prop where
  ok : EsOk es
  sd : Sd entLt es
  x0 : IsMin 0 (es.map (·.1))
  y0 : IsMin 0 (es.map (·.2.1))
  le : ∀ e ∈ es, e.1 ≤ 3 ∧ e.2.1 ≤ 3
  wd : ∀ e ∈ es, Wd e.2.2
theorem Wd.eok {e : Ent} (h : Wd e.2.2) (b1 : -20 ≤ e.1) (b2 : e.1 ≤ 20) (b3 : -20 ≤ e.2.1) (b4 : e.2.1 ≤ 20) : EOk e := ⟨⟨b1, b2⟩, ⟨b3, b4⟩, h.name, Nat.le_trans h.len (by decide), h.ok⟩
theorem mv_inj {lo bo : Int} {e f : Ent} (h : mv lo bo e = mv lo bo f) : e = f := by
  obtain ⟨a, b, c⟩ := e
  obtain ⟨a', b', c'⟩ := f
  simp only [mv, Prod.mk.injEq] at h
  obtain ⟨h1, h2, h3⟩ := h
  rw [show a = a' by omega, show b = b' by omega, h3]
theorem nodup_map {α β : Type} {f : α → β} (hf : ∀ a b, f a = f b → a = b) {l : List α} (h : l.Nodup) : (l.map f).Nodup := by
  rw [List.nodup_iff_pairwise_ne, List.pairwise_map]
  exact List.Pairwise.imp (fun a e => a (hf _ _ e)) h
theorem due_of {es gs : List Ent} (n : Nrm es gs) (nd : es.Nodup) (l0 : 2 ≤ es.length) (l1 : es.length ≤ 6) (b : ∀ e ∈ es, 0 ≤ e.1 ∧ e.1 ≤ 3 ∧ 0 ≤ e.2.1 ∧ e.2.1 ≤ 3 ∧ Wd e.2.2) : Due gs := by
  obtain ⟨lo, bo, ⟨hl, ml⟩, ⟨hb, mb⟩, pm, sd⟩ := n
  have len := pm.length_eq
  rw [List.length_map] at len
  obtain ⟨el, hel, e1⟩ := List.mem_map.mp hl
  obtain ⟨eb, heb, e2⟩ := List.mem_map.mp hb
  have hlo := b el hel
  have hbo := b eb heb
  have e1 : el.1 = lo := e1
  have e2 : eb.2.1 = bo := e2
  have all : ∀ g ∈ gs, 0 ≤ g.1 ∧ g.1 ≤ 3 ∧ 0 ≤ g.2.1 ∧ g.2.1 ≤ 3 ∧ Wd g.2.2 := fun g hg => by
    obtain ⟨e, he, rfl⟩ := List.mem_map.mp (pm.mem_iff.mp hg)
    have q := b e he
    have m1 := ml e.1 (List.mem_map.mpr ⟨e, he, rfl⟩)
    have m2 := mb e.2.1 (List.mem_map.mpr ⟨e, he, rfl⟩)
    refine ⟨by show 0 ≤ e.1 - lo; omega, by show e.1 - lo ≤ 3; omega, by show 0 ≤ e.2.1 - bo; omega, by show e.2.1 - bo ≤ 3; omega, q.2.2.2.2⟩
  have z1 : mv lo bo el ∈ gs := pm.mem_iff.mpr (List.mem_map.mpr ⟨el, hel, rfl⟩)
  have z2 : mv lo bo eb ∈ gs := pm.mem_iff.mpr (List.mem_map.mpr ⟨eb, heb, rfl⟩)
  refine ⟨⟨by omega, by omega, pm.nodup_iff.mpr (nodup_map (fun a c => mv_inj) nd), fun g hg => ?_⟩, sd, ⟨List.mem_map.mpr ⟨_, z1, ?_⟩, fun y hy => ?_⟩, ⟨List.mem_map.mpr ⟨_, z2, ?_⟩, fun y hy => ?_⟩, fun g hg => ?_, fun g hg => (all g hg).2.2.2.2⟩
  · have q := all g hg
    exact q.2.2.2.2.eok (by omega) (by omega) (by omega) (by omega)
  · show el.1 - lo = 0; omega
  · obtain ⟨g, hg, rfl⟩ := List.mem_map.mp hy
    exact (all g hg).1
  · show eb.2.1 - bo = 0; omega
  · obtain ⟨g, hg, rfl⟩ := List.mem_map.mp hy
    exact (all g hg).2.2.1
  · have q := all g hg
    exact ⟨q.2.1, q.2.2.2.1⟩
/-- what has been laid out of the grid -/
structure Grid (h : Int) (ns : List Str) (i j : Nat) (es : List Ent) : Prop where
  nd : es.Nodup
  len : es.length = (i * (h.toNat + 1) + j) * ns.length
  at_ : ∀ e ∈ es, 0 ≤ e.1 ∧ (e.1 < i ∨ (e.1 = i ∧ e.2.1 < j)) ∧ 0 ≤ e.2.1 ∧ e.2.1 ≤ h ∧ e.2.2 ∈ ns
theorem Grid.start {h : Int} {ns : List Str} : Grid h ns 0 0 [] := ⟨List.nodup_nil, by simp, fun e he => by cases he⟩
theorem Grid.row {h : Int} {ns : List Str} {i : Nat} {es : List Ent} (h0 : 0 ≤ h) (g : Grid h ns i (h + 1).toNat es) : Grid h ns (i + 1) 0 es := by
  have e : (h + 1).toNat = h.toNat + 1 := by omega
  refine ⟨g.nd, ?_, fun e he => ?_⟩
  · rw [g.len, e, Nat.succ_mul]; rfl
  · have q := g.at_ e he
    exact ⟨q.1, .inl (by omega), q.2.2⟩
def cellsAt (i j : Nat) (ns : List Str) : List Ent := ns.map fun z => ((i : Int), (j : Int), z)
theorem Grid.step {h : Int} {ns : List Str} {i j : Nat} {es : List Ent} (g : Grid h ns i j es) (nn : ns.Nodup) (hj : (j : Int) ≤ h) : Grid h ns i (j + 1) (es ++ cellsAt i j ns) := by
  refine ⟨?_, ?_, fun e he => ?_⟩
  · rw [List.nodup_append]
    refine ⟨g.nd, nodup_map (fun a b e => by simpa using e) nn, fun a ha b hb q => ?_⟩
    obtain ⟨z, _, rfl⟩ := List.mem_map.mp hb
    subst q
    have := (g.at_ _ ha).2.1
    simp at this
  · rw [List.length_append, g.len]
    unfold cellsAt
    rw [List.length_map, ← Nat.succ_mul]; rfl
  · rcases List.mem_append.mp he with he | he
    · have q := g.at_ e he
      exact ⟨q.1, by omega, q.2.2⟩
    · obtain ⟨z, hz, rfl⟩ := List.mem_map.mp he
      exact ⟨by show (0 : Int) ≤ (i : Int); omega, .inr ⟨rfl, by show (j : Int) < ((j + 1 : Nat) : Int); omega⟩, by show (0 : Int) ≤ (j : Int); omega, hj, hz⟩
theorem Grid.big {b h : Int} {ns : List Str} {es : List Ent} (g : Grid h ns (b + 1).toNat 0 es) (b0 : 0 ≤ b) (b3 : b ≤ 3) (h0 : 0 ≤ h) (h3 : h ≤ 3) (l0 : 1 ≤ ns.length) (l1 : ns.length ≤ 10) (n : ¬ (b = 0 ∧ h = 0 ∧ ns.length = 1)) : 2 ≤ es.length ∧ es.length ≤ 160 := by
  rw [g.len, Nat.add_zero]
  have e1 : (b + 1).toNat ≤ 4 := by omega
  have e2 : h.toNat + 1 ≤ 4 := by omega
  have e3 : 1 ≤ (b + 1).toNat := by omega
  have e4 : 1 ≤ h.toNat + 1 := by omega
  refine ⟨?_, Nat.le_trans (Nat.mul_le_mul (Nat.mul_le_mul e1 e2) l1) (by decide)⟩
  by_cases c1 : b = 0
  · by_cases c2 : h = 0
    · have q := Nat.mul_le_mul (Nat.mul_le_mul e3 e4) (show 2 ≤ ns.length by omega)
      exact q
    · have q := Nat.mul_le_mul (Nat.mul_le_mul e3 (show 2 ≤ h.toNat + 1 by omega)) l0
      exact q
  · have q := Nat.mul_le_mul (Nat.mul_le_mul (show 2 ≤ (b + 1).toNat by omega) e4) l0
    exact q
theorem Grid.small {h : Int} {ns : List Str} {i j : Nat} {es : List Ent} (g : Grid h ns i j es) (i4 : i ≤ 4) (j4 : j ≤ 4) (h3 : h ≤ 3) (l1 : ns.length ≤ 10) : es.length ≤ 200 := by
  rw [g.len]
  have q := Nat.mul_le_mul i4 (show h.toNat + 1 ≤ 4 by omega)
  exact Nat.le_trans (Nat.mul_le_mul (show i * (h.toNat + 1) + j ≤ 20 by omega) l1) (by decide)
/-- a step, and what stands behind it -/
theorem seq_cut {A R : TS} {D : Ends} {σ : L2.St} {H : Hp} (Pm : L2.St → Hp → Prop) (main : ∀ σ' H', Pm σ' H' → R D σ' H') (h : (∀ σ' H', Pm σ' H' → R D σ' H') → tSeq A R D σ H) : tSeq A R D σ H := h main
end K12

set_option Elab.async false
set_option linter.all false
set_option maxRecDepth 100000
set_option maxHeartbeats 4000000
namespace K12
open PySem L2 Lay Own SrtO
local macro_rules | `(tactic| walk_at "ne") => `(tactic| first | assumption | (apply Ne.symm; assumption) | exact ne_of_none (by walk_at "look") (by assumption) | exact (ne_of_none (by walk_at "look") (by assumption)).symm)
local macro_rules | `(tactic| walk_at "look") => `(tactic| first | assumption | exact upd_same | (refine Eq.trans (upd_ne ?_) ?_; walk_at "ne"; walk_at "look"))
local macro_rules | `(tactic| walk_at "rds") => `(tactic| first | rfl | assumption | walk_at "look" | exact SqL.of (by walk_at "look") | exact SqT.of (by walk_at "look") | exact Or.inl (SqL.of (by walk_at "look")) | exact Or.inl (by assumption) | decide | omega | exact Nat.le_of_ble_eq_true rfl | exact Or.inr ⟨by decide, by decide⟩ | exact Or.inl ⟨by omega, by omega⟩ | exact ⟨by decide, by decide⟩)
local macro_rules | `(tactic| walk_at "rd1") => `(tactic| first | (apply Exists.intro) | (refine And.intro ?_ ?_; walk_at "rds") | (refine Or.inl ?_; apply Exists.intro; refine And.intro ?_ ?_; rfl))
local macro_rules | `(tactic| walk_at "rd") => `(tactic| repeat walk_at "rd1")
section
variable {P : Program} {w : World} {K : PySem.W.Frag} {mg : Str → Option Value} {base : Heap}
/-! entries -/
def spLEn (K : PySem.W.Frag) : Sp := fun vs H Q _ => ∃ p a ns, vs = [.ref p, .ref a] ∧ H p = some (PotO p) ∧ H a = some (.lst (ns.map V.str)) ∧ NsOk ns ∧ 1 ≤ ns.length ∧ ns.length ≤ 10 ∧
  ∀ l zs es H', L2.Same H H' → H l = none → H' l = some (.lst zs) → EL H' zs es → Due es → Q (.ref l) H'
theorem d_lentries (T : Txt K mg) : Df P w K mg base 3 "_law_entries" ["_law_pot_here", "_law_tags"] (spLEn K) := by
  have D_l_draw := d_draw (P := P) (w := w) (base := base) T
  have D_l_among := d_among (P := P) (w := w) (base := base) T
  have D_l_normed := d_lnormed (P := P) (w := w) (base := base) T
  refine T.S_l_entries.by sc_l_entries (fun vs H Q E h => ?_) (fun f cdv A outer s H vs Q E hr hgd h => ?_)
  · obtain ⟨p, a, ns, rfl, _⟩ := h; rfl
  · obtain ⟨p, a, ns, rfl, hp, ha, ok, l0, l1, k⟩ := h
    refine ⟨_, (pss_cons (ps_par3 (i := 2) (j := 3) (l := 4) rfl sc_l_entries.nd rfl rfl rfl (by decide) (by decide) (by decide) rfl rfl rfl (pa_cons (pe_own D_l_draw (hr.mono (by first | decide | omega)) hgd (pa_cons (pv 0) (pa_cons pe_int pa_nil))) (pa_cons (pe_own D_l_draw (hr.mono (by first | decide | omega)) hgd (pa_cons (pv 0) (pa_cons pe_int pa_nil))) (pa_cons (pe_lst pa_nil) pa_nil))) (by first | rfl | with_unfolding_all rfl))
      (pss_cons (ps_if (PW.pt (pw_and (pt_cmpR op_eq (pv 2) pe_int (nomark _)) (pw_and (pt_cmpR op_eq (pv 3) pe_int (nomark _)) (pw_and1 (pt_cmpR op_eq (pe_callB call_len_seq (by rfl) T.n_len PySem.boot_len (pa_cons (pv 1) pa_nil)) pe_int (nomark _)))))) (pss_one (ps_set (i := 2) sc_l_entries.nd rfl (by first | exact Or.inl rfl | exact Or.inr rfl) pe_int)) pss_nil)
      (pss_cons (ps_for PassesOwn.never rfl (pi_range1 (by rfl) T.n_range (pa_cons (pe_op op_add (pv 2) pe_int) pa_nil)) (pg_name (i := 5) sc_l_entries.nd rfl (by first | exact Or.inl rfl | exact Or.inr rfl)) (pss_one (ps_for PassesOwn.never rfl (pi_range1 (by rfl) T.n_range (pa_cons (pe_op op_add (pv 3) pe_int) pa_nil)) (pg_name (i := 6) sc_l_entries.nd rfl (by first | exact Or.inl rfl | exact Or.inr rfl)) (pss_one (ps_expr (pe_bm PySem.F.plainAttrs_list PySem.F.slot_list_extend PySem.F.type_list_extend mt_extend (pv 4) (pa_cons (pe_lc (own := [("_law_tag", 9)]) rfl sc_l_entries.nd (pi_list (pv 1)) (blkOk_by (own := [("_law_tag", 9)]) (N := ["_law_pot_here", "_law_tags", "_law_broad", "_law_high", "_law_free", "_law_across", "_law_up", "_law_found", "_law_turn", "_law_tag"]) (sc := defScope s_l_entries) (by decide +kernel)) (fun _ _ _ _ _ => (pg_name (i := 9) sc_l_entries.nd rfl (by first | exact Or.inl rfl | exact Or.inr rfl))) (fun _ _ _ _ _ => pts_nil) (fun _ _ _ _ _ => (pe_tup (pa_cons (pv 5) (pa_cons (pv 6) (pa_cons (pv 9) pa_nil)))))) pa_nil)))))))
      (pss_cons (ps_set (i := 7) sc_l_entries.nd rfl (by first | exact Or.inl rfl | exact Or.inr rfl) (pe_lst pa_nil))
      (pss_cons (ps_for PassesOwn.never rfl (pi_range1 (by rfl) T.n_range (pa_cons (pe_callB (call_min2 rfl) (by rfl) T.n_min (by decide +kernel) (pa_cons (pe_callB call_len_seq (by rfl) T.n_len PySem.boot_len (pa_cons (pv 4) pa_nil)) (pa_cons (pe_own D_l_among (hr.mono (by first | decide | omega)) hgd (pa_cons (pv 0) (pa_cons (pe_lst (pa_cons pe_int (pa_cons pe_int (pa_cons pe_int (pa_cons pe_int (pa_cons pe_int (pa_cons pe_int (pa_cons pe_int pa_nil)))))))) pa_nil))) pa_nil))) pa_nil)) (pg_name (i := 8) sc_l_entries.nd rfl (by first | exact Or.inl rfl | exact Or.inr rfl)) (pss_one (ps_expr (pe_bm PySem.F.plainAttrs_list PySem.F.slot_list_append PySem.F.type_list_append mt_append (pv 7) (pa_cons (pe_bm PySem.F.plainAttrs_list PySem.F.slot_list_pop PySem.F.type_list_pop mt_popAt (pv 4) (pa_cons (pe_own D_l_draw (hr.mono (by first | decide | omega)) hgd (pa_cons (pv 0) (pa_cons (pe_callB call_len_seq (by rfl) T.n_len PySem.boot_len (pa_cons (pv 4) pa_nil)) pa_nil))) pa_nil)) pa_nil)))))
      (pss_one (ps_ret (pe_own D_l_normed (hr.mono (by first | decide | omega)) hgd (pa_cons (pv 7) pa_nil))))))))), ?_⟩
    refine ⟨_, rfl, p, 4, rfl, hp, by decide, by decide, fun d H1 d0 d1 s1 => ?_⟩
    refine ⟨_, rfl, p, 4, rfl, s1 _ _ hp, by decide, by decide, fun h H2 e0 e1 s2 => ?_⟩
    walk_at "rd"
    intro o no
    refine ⟨_, _, _, rfl, ?_⟩
    have s3 : L2.Same H (upd H2 o (.lst [])) := (s1.trans s2).trans (Same.new no)
    have ho3 : (upd H2 o (.lst [])) o = some (.lst []) := upd_same
    have no' : H o = none := (s1.trans s2).free no
    generalize upd H2 o (.lst []) = H3 at s3 ho3
    dsimp only
    refine seq_cut (fun σ' H' => ∃ b : Int, 0 ≤ b ∧ b ≤ 3 ∧ ¬ (b = 0 ∧ h = 0 ∧ ns.length = 1) ∧ σ' = [some (.ref p), some (.ref a), some (.int b), some (.int h), some (.ref o), none, none, none, none, none] ∧ H' = H3) (fun σ' H' q => ?_) (fun main => ?_)
    · obtain ⟨b, b0, b3, nb, rfl, rfl⟩ := q
      refine ⟨_, rfl, b, 1, rfl, rfl, b + 1, rfl, by omega, by omega, ?_⟩
      refine for_it walk_range (fun i σ H' => ∃ (s5 s6 s7 s8 s9 : Option V) (ls : List V) (es : List Ent), σ = [some (.ref p), some (.ref a), some (.int b), some (.int h), some (.ref o), s5, s6, s7, s8, s9] ∧ L2.Same H H' ∧ H' o = some (.lst ls) ∧ EL H' ls es ∧ Grid h ns i 0 es)
        ⟨_, _, _, _, _, [], [], rfl, s3, ho3, .nil, .start⟩ (fun _ _ _ _ _ => trivial) (fun i x σ H4 H5 hi hP y => ?_) (fun σ H4 hP => ?_)
      · obtain ⟨s5, s6, s7, s8, s9, ls, es, rfl, t1, ho, el, gr⟩ := hP
        obtain ⟨rfl, rfl⟩ := y
        refine ⟨_, rfl, h, 1, rfl, rfl, h + 1, rfl, by omega, by omega, ?_⟩
        refine for_it walk_range (fun j σ H' => ∃ (s6 s7 s8 s9 : Option V) (ls : List V) (es : List Ent), σ = [some (.ref p), some (.ref a), some (.int b), some (.int h), some (.ref o), some (.int (0 + (i : Int))), s6, s7, s8, s9] ∧ L2.Same H H' ∧ H' o = some (.lst ls) ∧ EL H' ls es ∧ Grid h ns i j es)
          ⟨_, _, _, _, ls, es, rfl, t1, ho, el, gr⟩ (fun _ _ _ _ _ => trivial) (fun j x σ H6 H7 hj hP y => ?_) (fun σ H6 hP => ?_)
        · obtain ⟨s6, s7, s8, s9, ls, es, rfl, t1, ho, el, gr⟩ := hP
          obtain ⟨rfl, rfl⟩ := y
          refine ⟨_, rfl, ty_lst ho, ?_⟩
          refine ⟨_, rfl, a, rfl, ⟨_, SqL.of (t1 _ _ ha)⟩, fun D nD => ?_⟩
          refine lc_depI (walk_list (xs := ns.map V.str)) nD (by rw [List.length_map]; omega) (fun _ sm => SqL.of (sm _ _ (t1 _ _ ha))) (fun n H v => ∃ z, ns[n]? = some z ∧ EntT H v ((i : Int), (j : Int), z)) (fun n H H' v s ⟨e, he, h⟩ => ⟨e, he, h.same s⟩) (fun n H xs ys v hD ⟨e, he, h⟩ => ⟨e, he, h.mut hD⟩) (fun n x H8 H9 Kn Z hn sm _ y q => ?_) (fun H8 ys sm hD hl hr => ?_)
          · obtain ⟨rfl, hx⟩ := y
            rw [List.getElem?_map] at hx
            obtain ⟨z, hz, rfl⟩ := Option.map_eq_some_iff.mp hx
            walk_at "rd"
            exact fun p np => q _ _ (Same.new np) ⟨z, hz, p, rfl, by rw [upd_same]; show some (HO.tup [V.int (0 + (i : Int)), V.int (0 + (j : Int)), V.str z]) = _; rw [Int.zero_add, Int.zero_add]⟩
          · have el2 : EL H8 ys (cellsAt i j ns) := by
              refine .of_at (by unfold cellsAt; rw [List.length_map, hl, List.length_map]) fun n x e hx he => ?_
              obtain ⟨z, hz, q⟩ := hr n x hx
              unfold cellsAt at he
              rw [List.getElem?_map, hz] at he
              cases he
              exact q
            have le1 := el.len
            have le2 := el2.len
            have sm1 := gr.small (by omega) (by omega) (by omega) l1
            refine ⟨o, D, ls, ys, rfl, rfl, sm _ _ ho, hD, Nat.le_trans (m := 210) (by rw [hl, List.length_map]; omega) (by decide), ?_⟩
            exact ⟨_, _, _, _, ls ++ ys, es ++ cellsAt i j ns, rfl, Same.mut (t1.trans sm) no', upd_same, ((el.same sm).app el2).mut (sm _ _ ho), gr.step ok.nd (by omega)⟩
        · obtain ⟨s6, s7, s8, s9, ls, es, rfl, t1, ho, el, gr⟩ := hP
          exact ⟨_, _, _, _, _, ls, es, rfl, t1, ho, el, gr.row e0⟩
      · obtain ⟨s5, s6, s7, s8, s9, ls, es, rfl, t1, ho, el, gr⟩ := hP
        obtain ⟨big0, big1⟩ := gr.big b0 b3 e0 (by omega) l0 l1 nb
        walk_at "rd"
        intro q0 nq
        have oq : o ≠ q0 := fun z => by rw [← z, ho] at nq; cases nq
        have nq' : H q0 = none := t1.free nq
        have t2 := t1.trans (Same.new (o := .lst []) nq)
        refine ⟨_, rfl, o, ls, rfl, .inl (SqL.of (by rw [upd_ne oq]; exact ho)), ?_⟩
        walk_at "rd"
        intro l nl
        have t3 := t2.trans (Same.new (o := .lst [V.int 2, V.int 2, V.int 3, V.int 3, V.int 4, V.int 5, V.int 6]) nl)
        have u2 : L2.Same H4 (upd (upd H4 q0 (.lst [])) l (.lst [V.int 2, V.int 2, V.int 3, V.int 3, V.int 4, V.int 5, V.int 6])) := (Same.new nq).trans (Same.new nl)
        have q2 : (upd (upd H4 q0 (.lst [])) l (.lst [V.int 2, V.int 2, V.int 3, V.int 3, V.int 4, V.int 5, V.int 6])) q0 = some (.lst []) := Same.new nl _ _ upd_same
        refine ⟨p, l, _, rfl, t3 _ _ hp, SqL.of upd_same, by decide, by decide, fun y H5 hy t5 => ?_⟩
        have hj : ∃ j : Int, y = .int j ∧ 2 ≤ j ∧ j ≤ 6 := by
          simp only [List.mem_cons, List.not_mem_nil, or_false] at hy
          rcases hy with rfl | rfl | rfl | rfl | rfl | rfl | rfl <;> exact ⟨_, rfl, by decide, by decide⟩
        obtain ⟨j, rfl, j2, j6⟩ := hj
        refine ⟨ls.length, j, rfl, ?_⟩
        obtain ⟨m, hm⟩ : ∃ m, (if j < (ls.length : Int) then j else (ls.length : Int)) = m := ⟨_, rfl⟩
        have lle := el.len
        have mb : 2 ≤ m ∧ m ≤ 6 ∧ m ≤ ls.length := by
          by_cases c : j < (ls.length : Int)
          · rw [if_pos c] at hm; omega
          · rw [if_neg c] at hm; omega
        obtain ⟨m2, m6, ml⟩ := mb
        refine ⟨m, by rw [hm], by omega, by omega, ?_⟩
        refine for_it walk_range (fun i σ H' => ∃ (s8 s9 : Option V) (lx fx : List V), σ = [some (.ref p), some (.ref a), some (.int b), some (.int h), some (.ref o), s5, s6, some (.ref q0), s8, s9] ∧ L2.Same H H' ∧ H' o = some (.lst lx) ∧ H' q0 = some (.lst fx) ∧ EL H' ls es ∧ (lx ++ fx).Perm ls ∧ fx.length = i)
          ⟨_, _, ls, [], rfl, t3.trans t5, t5 _ _ (u2 _ _ ho), t5 _ _ q2, (el.same u2).same t5, by rw [List.append_nil], rfl⟩ (fun _ _ _ _ _ => trivial) (fun i x σ H6 H7 hi hP y => ?_) (fun σ H6 hP => ?_)
        · obtain ⟨s8, s9, lx, fx, rfl, t4, ho4, hq4, el4, pm, lf⟩ := hP
          obtain ⟨rfl, rfl⟩ := y
          have l := pm.length_eq
          rw [List.length_append] at l
          refine ⟨_, rfl, ty_lst hq4, _, rfl, ty_lst ho4, _, rfl, _, rfl, o, lx, rfl, .inl (SqL.of ho4), p, lx.length, rfl, t4 _ _ hp, by omega, Int.lt_of_le_of_lt (b := 200) (by omega) (by decide), fun d' H8 d0 d1 s7 => ?_⟩
          have hk : d'.toNat < lx.length := by omega
          refine ⟨o, lx, d', d'.toNat, lx[d'.toNat], rfl, rfl, s7 _ _ ho4, by omega, by omega, sIx_of d0 d1, List.getElem?_eq_getElem hk, ?_⟩
          have hq8 : upd H8 o (.lst (lx.eraseIdx d'.toNat)) q0 = some (.lst fx) := by rw [upd_ne (Ne.symm oq)]; exact s7 _ _ hq4
          refine ⟨q0, fx, _, rfl, rfl, hq8, Nat.lt_of_le_of_lt (m := 200) (by omega) (by decide), ?_⟩
          refine ⟨_, _, lx.eraseIdx d'.toNat, fx ++ [lx[d'.toNat]], rfl, Same.mut (Same.mut (t4.trans s7) no') nq', by rw [upd_ne oq]; exact upd_same, upd_same, ((el4.same s7).mut (s7 _ _ ho4)).mut hq8, ?_, by rw [List.length_append, lf]; rfl⟩
          have e1 := erase_perm hk
          have e2 : (lx.eraseIdx d'.toNat ++ (fx ++ [lx[d'.toNat]])).Perm ((lx[d'.toNat] :: lx.eraseIdx d'.toNat) ++ fx) := by
            rw [← List.append_assoc]
            exact List.perm_append_comm
          exact e2.trans ((e1.append (List.Perm.refl fx)).trans pm)
        · obtain ⟨s8, s9, lx, fx, rfl, t4, ho4, hq4, el4, pm, lf⟩ := hP
          obtain ⟨el5, pm5⟩ := el4.perm pm
          have elf : EL H6 fx (fx.map (entOf H6)) := .of_map fun x hx => el4.ents x (pm.mem_iff.mp (List.mem_append_right _ hx))
          rw [List.map_append] at pm5
          have nd := (List.nodup_append.mp (pm5.nodup_iff.mpr gr.nd)).2.1
          have lm : (fx.map (entOf H6)).length = m.toNat := by rw [List.length_map, lf]
          refine ⟨_, rfl, q0, fx, _, rfl, hq4, elf, by omega, by omega, fun r zs gs H8 s8 nr hr elg nrm => ?_⟩
          refine k r zs gs H8 (t4.trans s8) (t4.free nr) hr elg (due_of nrm nd (by omega) (by omega) fun e he => ?_)
          have q := gr.at_ e (pm5.mem_iff.mp (List.mem_append_right _ he))
          exact ⟨q.1, by omega, q.2.2.1, by omega, ok.ok _ q.2.2.2.2⟩
    · by_cases c1 : d = 0
      · subst c1
        refine ⟨_, rfl, rfl, _, rfl, ?_⟩
        rw [decV, decide_eq_true rfl]
        refine iteT ?_
        by_cases c2 : h = 0
        · subst c2
          refine ⟨_, rfl, rfl, _, rfl, ?_⟩
          rw [decV, decide_eq_true rfl]
          refine iteT ?_
          refine ⟨_, rfl, a, _, rfl, .inl (SqL.of (s3 _ _ ha)), rfl, _, rfl, ?_⟩
          rw [decV]
          by_cases c3 : ((ns.map V.str).length : Int) = 1
          · rw [decide_eq_true c3]
            refine iteT ?_
            exact main _ _ ⟨1, by decide, by decide, fun z => absurd z.1 (by decide), rfl, rfl⟩
          · rw [decide_eq_false c3]
            refine iteF ?_
            rw [List.length_map] at c3
            exact main _ _ ⟨0, by decide, by decide, fun z => c3 (by omega), rfl, rfl⟩
        · refine ⟨_, rfl, rfl, _, rfl, ?_⟩
          rw [decV, decide_eq_false c2]
          refine iteF (iteF ?_)
          exact main _ _ ⟨0, by decide, by decide, fun z => c2 z.2.1, rfl, rfl⟩
      · refine ⟨_, rfl, rfl, _, rfl, ?_⟩
        rw [decV, decide_eq_false c1]
        refine iteF (iteF ?_)
        exact main _ _ ⟨d, d0, by omega, fun z => c1 z.1, rfl, rfl⟩
end
end K12

set_option Elab.async false
set_option linter.all false
set_option maxRecDepth 100000
set_option maxHeartbeats 4000000
namespace Own
open PySem L2 Lay PySem.Spec PyProof.Rows
theorem pd_app {α β : Type} {F : α → β → Prop} {l1 : List α} {l2 : List β} {m1 : List α} {m2 : List β} (h : Paired F l1 l2) (g : Paired F m1 m2) : Paired F (l1 ++ m1) (l2 ++ m2) := by
  induction h with
  | nil => exact g
  | cons a _ ih => exact .cons a ih
theorem pd_at {α β : Type} {F : α → β → Prop} {l1 : List α} {l2 : List β} (h : Paired F l1 l2) : ∀ {i : Nat} {x : α}, l1[i]? = some x → ∃ y, l2[i]? = some y ∧ F x y := by
  induction h with
  | nil => intro i x e; simp at e
  | cons a _ ih =>
    intro i x e
    cases i with
    | zero => simp at e; subst e; exact ⟨_, rfl, a⟩
    | succ j => exact ih (by simpa using e)
/-- a comprehension with a test: f tells what becomes of each place -/
theorem lc_fil {α : Type} {J : It} {n : Nat} {G : Hp → Prop} {Y : Nat → Hp → V → Hp → Prop} (wk : Walk J n G Y) {g : TG} {tt : TT} {te : TE} {vs : List Nat} {σ : L2.St} {H1 : Hp} {D : Addr} {Qd : Hp → Prop} (nD : H1 D = none) (hn : n < 100000)
    (hG : ∀ H, L2.Same H1 H → G H) (f : Nat → Option α) (R : Hp → V → α → Prop) (rs : ∀ H H' v c, L2.Same H H' → R H v c → R H' v c) (rm : ∀ H xs ys v c, H D = some (.lst xs) → R H v c → R (upd H D (.lst ys)) v c)
    (hs : ∀ i x H H' (Kn : V → Hp → Prop) (Z : Hp → Prop), i < n → L2.Same H1 H → (∃ xs, H D = some (.lst xs)) → Y i H x H' → (∀ y c H4, f i = some c → L2.Same H H4 → R H4 y c → Kn y H4) → (f i = none → ∀ H4, L2.Same H H4 → Z H4) →
      g x (wipe σ vs) H' fun σ2 H2 => wipe σ2 vs = wipe σ vs ∧ tt σ2 H2 fun b H3 => if b = true then te σ2 H3 Kn else Z H3)
    (hd : ∀ H xs, L2.Same H1 H → H D = some (.lst xs) → Paired (R H) xs ((List.range n).filterMap f) → Qd H) :
    ∃ W : Nat → Nat → Hp → Prop, (∃ m, W 0 m (upd H1 D (.lst []))) ∧ ∀ i m H, W i m H →
      (J.stop i H ∧ Qd H) ∨ (J.go i H ∧ ∃ Nx : Hp → Prop, (∀ H', Nx H' → ∃ m', m' < m ∧ W (i + 1) m' H') ∧ ∀ x H', J.yld i H x H' → g x (wipe σ vs) H' fun σ2 H2 => wipe σ2 vs = wipe σ vs ∧ tt σ2 H2 fun b H3 =>
        if b = true then te σ2 H3 fun y H4 => ∃ acc, H4 D = some (.lst acc) ∧ acc.length < sizeLine ∧ Nx (upd H4 D (.lst (acc ++ [y]))) else Nx H3) := by
  refine lc_it wk (fun i H => L2.Same H1 H ∧ ∃ xs, H D = some (.lst xs) ∧ Paired (R H) xs ((List.range i).filterMap f)) ?_ ?_ ?_ ?_
  · exact ⟨Same.new nD, [], upd_same, .nil⟩
  · exact fun i H _ h => hG H h.1
  · intro i x H H' hi ⟨sm, xs, hD, hp⟩ y
    have hl := hp.length
    have hle : ((List.range i).filterMap f).length ≤ i := by
      have z := List.length_filterMap_le f (List.range i)
      rwa [List.length_range] at z
    refine hs i x H H' _ _ hi sm ⟨xs, hD⟩ y (fun v c H4 e h4 hv => ⟨xs, h4 _ _ hD, by rw [hl]; exact Nat.lt_of_le_of_lt hle (Nat.lt_trans (Nat.lt_trans hi hn) (by decide)), ?_⟩) (fun e H4 h4 => ?_)
    · refine ⟨Same.mut (sm.trans h4) nD, xs ++ [v], upd_same, ?_⟩
      rw [List.range_succ, List.filterMap_append, show List.filterMap f [i] = [c] by simp [e]]
      exact pd_app (L2.Paired.mapP hp fun a b z => rm _ _ _ _ _ (h4 _ _ hD) (rs _ _ _ _ h4 z)) (.cons (rm _ _ _ _ _ (h4 _ _ hD) hv) .nil)
    · refine ⟨sm.trans h4, xs, h4 _ _ hD, ?_⟩
      rw [List.range_succ, List.filterMap_append, show List.filterMap f [i] = [] by simp [e], List.append_nil]
      exact L2.Paired.mapP hp fun a b z => rs _ _ _ _ h4 z
  · intro H ⟨sm, xs, hD, hp⟩
    exact hd H xs sm hD hp
/-- what is kept of a list -/
theorem range_fil {α β : Type} (g : α → Option β) (l : List α) : (List.range l.length).filterMap (fun i => l[i]?.bind g) = l.filterMap g := by
  induction l with
  | nil => rfl
  | cons a t ih =>
    rw [List.length_cons, List.range_succ_eq_map, List.filterMap_cons, List.filterMap_map]
    have e : (fun i => (a :: t)[i]?.bind g) ∘ Nat.succ = fun i => t[i]?.bind g := by
      funext i
      simp
    rw [e, ih]
    cases hg : g a with
    | none => simp [hg]
    | some b => simp [hg]
section
variable {X : Cx} {C g : Addr} {k : Nat} {sp : Sp}
/-- o <= y, o >= y -/
def rCmpP (K : PySem.W.Frag) (C : Addr) (sp : Sp) : R2 := fun x y H Q => ∃ a dx fs t, x = .ref a ∧ H a = some (.ins C dx fs) ∧ TyX K H y t ∧ PySem.W.notFirst K C t = true ∧ sp [.ref a, y] H (asB Q) E0
theorem cmp_own {op : CmpOp} (hs : PySem.W.findIn X.K (.ref C) (cmpInfo op).2.1 = some (some (.ref g))) (hf : PySem.W.isFn X.K (.ref g) = true) (F : FnP X.prog X.w X.K X.mg X.base k g sp) (hr : Room k X.A) (hg : X.A.guards = some [])
    {pins : List (Addr × Obj)} {s : Shared} {σ : L2.St} {H : Hp} {x y : V} {v u : Value} {Q : VK} (I : Inv X pins σ H s) (rx : RelV x v) (ry : RelV y u) (h : rCmpP X.K C sp x y H Q) : wpAny (model X.prog X.w) X.A (richCompare op v u) (EP X pins σ Q) X.xe s := by
  obtain ⟨a, dx, fs, t, rfl, ha, ty, nf, q⟩ := h
  cases (show v = Value.ref a from rx)
  obtain ⟨mA, O, _⟩ := ins_get I.hok ha
  obtain ⟨od, J, _⟩ := O.look
  obtain ⟨m, hF⟩ := I.fr
  obtain ⟨Pz, Z, pz, _⟩ := kit_of I ry ty
  refine PySem.W.cmp_K (op := op) (tb := t) hr.units0 hF I.ok.mod.kin J (Z.ty _ _ I.kIn pz) nf hs hf (wpAny_mono (run_own (vs := [.ref a, y]) (us := [.ref a, u]) F hr hg I.env0 I (.cons rfl (.cons ry .nil)) q) (fun w s' z => ?_) fun _ _ e => e)
  obtain ⟨v', H', I', rv, b, rfl, q'⟩ := z
  cases (show w = Value.bool b from rv)
  exact ⟨.bl b, H', I', rfl, q'⟩
theorem op_leP (hs : PySem.W.findIn X.K (.ref C) "__le__" = some (some (.ref g))) (hf : PySem.W.isFn X.K (.ref g) = true) (F : FnP X.prog X.w X.K X.mg X.base k g sp) (hr : Room k X.A) (hg : X.A.guards = some []) : OpR X (compareOp .LtE) (rCmpP X.K C sp) := by
  intro pins s σ H x y v u Q I rx ry h
  exact cmp_own (op := .LtE) hs hf F hr hg I rx ry h
theorem op_geP (hs : PySem.W.findIn X.K (.ref C) "__ge__" = some (some (.ref g))) (hf : PySem.W.isFn X.K (.ref g) = true) (F : FnP X.prog X.w X.K X.mg X.base k g sp) (hr : Room k X.A) (hg : X.A.guards = some []) : OpR X (compareOp .GtE) (rCmpP X.K C sp) := by
  intro pins s σ H x y v u Q I rx ry h
  exact cmp_own (op := .GtE) hs hf F hr hg I rx ry h
end
end Own

set_option Elab.async false
set_option linter.all false
set_option maxRecDepth 100000
set_option maxHeartbeats 4000000
namespace K12
open PySem L2 Lay Own SrtO
local macro_rules | `(tactic| walk_at "ne") => `(tactic| first | assumption | (apply Ne.symm; assumption) | exact ne_of_none (by walk_at "look") (by assumption) | exact (ne_of_none (by walk_at "look") (by assumption)).symm)
local macro_rules | `(tactic| walk_at "look") => `(tactic| first | assumption | exact upd_same | (refine Eq.trans (upd_ne ?_) ?_; walk_at "ne"; walk_at "look"))
local macro_rules | `(tactic| walk_at "rds") => `(tactic| first | rfl | assumption | walk_at "look" | exact SqL.of (by walk_at "look") | exact SqT.of (by walk_at "look") | exact Or.inl (SqL.of (by walk_at "look")) | exact Or.inl (by assumption) | decide | omega | exact Nat.le_of_ble_eq_true rfl | exact Or.inr ⟨by decide, by decide⟩ | exact Or.inl ⟨by omega, by omega⟩ | exact ⟨by decide, by decide⟩)
local macro_rules | `(tactic| walk_at "rd1") => `(tactic| first | (apply Exists.intro) | (refine And.intro ?_ ?_; walk_at "rds") | (refine Or.inl ?_; apply Exists.intro; refine And.intro ?_ ?_; rfl))
local macro_rules | `(tactic| walk_at "rd") => `(tactic| repeat walk_at "rd1")
section
variable {P : Program} {w : World} {K : PySem.W.Frag} {mg : Str → Option Value} {base : Heap}
/-! shifts -/
def sh (u v : Int) (e : Ent) : Ent := (e.1 + u, e.2.1 + v, e.2.2)
def PrT (H : Hp) (x : V) (p : Int × Int) : Prop := ∃ t, x = .ref t ∧ H t = some (.tup [.int p.1, .int p.2])
abbrev PL (H : Hp) (xs : List V) (ps : List (Int × Int)) : Prop := Paired (PrT H) xs ps
theorem PrT.same {H H' : Hp} {x : V} {p : Int × Int} (h : PrT H x p) (s : L2.Same H H') : PrT H' x p := by
  obtain ⟨t, rfl, ht⟩ := h
  exact ⟨t, rfl, s _ _ ht⟩
theorem PrT.mut {H : Hp} {D : Addr} {xs ys : List V} {x : V} {p : Int × Int} (hD : H D = some (.lst xs)) (h : PrT H x p) : PrT (upd H D (.lst ys)) x p := by
  obtain ⟨t, rfl, ht⟩ := h
  exact ⟨t, rfl, (upd_ne fun z => by rw [z, hD] at ht; cases ht).trans ht⟩
theorem pl_same {H H' : Hp} {xs : List V} {ps : List (Int × Int)} (h : PL H xs ps) (s : L2.Same H H') : PL H' xs ps := L2.Paired.mapP h fun _ _ z => z.same s
theorem pl_mut {H : Hp} {D : Addr} {us ys xs : List V} {ps : List (Int × Int)} (hD : H D = some (.lst us)) (h : PL H xs ps) : PL (upd H D (.lst ys)) xs ps := L2.Paired.mapP h fun _ _ z => z.mut hD
def among (es fs : List Ent) : Bool := (es.map fun e => decide (e ∈ fs)).all id
def shOf (e0 : Ent) (fs : List Ent) : List (Int × Int) := fs.filterMap fun f => if f.2.2 = e0.2.2 then some (f.1 - e0.1, f.2.1 - e0.2.1) else none
def shfs : List Ent → List Ent → List (Int × Int)
  | [], _ => []
  | e0 :: es, fs => (shOf e0 fs).filterMap fun p => if among ((e0 :: es).map (sh p.1 p.2)) fs = true then some p else none
theorem op_inTK {cx : Cx} {C : PySem.W.Frag} (h : cx.K = C) (hu : cx.A.units + 66 < cLine) : OpR cx (compareOp .In) (rInT C) := h ▸ op_inT hu
def spShf (K : PySem.W.Frag) : Sp := fun vs H Q _ => ∃ a s xs es u v, vs = [.ref a, .ref s] ∧ H a = some (.tup xs) ∧ EL H xs es ∧ es.length ≤ 8 ∧ H s = some (.tup [.int u, .int v]) ∧
  ∀ p zs H', L2.Same H H' → H p = none → H' p = some (.lst zs) → EL H' zs (es.map (sh u v)) → Q (.ref p) H'
theorem d_shifted (T : Txt K mg) : Df P w K mg base 1 "shifted" ["entries", "shift"] (spShf K) := by
  refine T.S_shifted.by sc_shifted (fun vs H Q E h => ?_) (fun f cdv A outer s H vs Q E hr hgd h => ?_)
  · obtain ⟨a, s, xs, es, u, v, rfl, _⟩ := h; rfl
  · obtain ⟨a, sa, xs, es, u, v, rfl, ha, el, l1, hs, k⟩ := h
    refine ⟨_, (pss_cons (ps_asg (pv 1) (pg_tup rfl (pgs_cons (pg_name (i := 2) sc_shifted.nd rfl (by first | exact Or.inl rfl | exact Or.inr rfl)) (pgs_cons (pg_name (i := 3) sc_shifted.nd rfl (by first | exact Or.inl rfl | exact Or.inr rfl)) pgs_nil))))
      (pss_one (ps_ret (pe_lc (own := [("across", 4), ("up", 5), ("name", 6)]) rfl sc_shifted.nd (pi_tup (pv 0)) (blkOk_by (own := [("across", 4), ("up", 5), ("name", 6)]) (N := ["entries", "shift", "right", "upwards", "across", "up", "name"]) (sc := defScope s_shifted) (by decide +kernel)) (fun _ _ _ _ _ => (pg_tupK (K := K) (n := 3) rfl rfl (pgs_cons (pg_name (i := 4) sc_shifted.nd rfl (by first | exact Or.inl rfl | exact Or.inr rfl)) (pgs_cons (pg_name (i := 5) sc_shifted.nd rfl (by first | exact Or.inl rfl | exact Or.inr rfl)) (pgs_cons (pg_name (i := 6) sc_shifted.nd rfl (by first | exact Or.inl rfl | exact Or.inr rfl)) pgs_nil))))) (fun _ _ _ _ _ => pts_nil) (fun _ _ _ _ _ => (pe_tup (pa_cons (pe_op op_add (pv 4) (pv 2)) (pa_cons (pe_op op_add (pv 5) (pv 3)) (pa_cons (pv 6) pa_nil))))))))), ?_⟩
    have ln := el.len
    refine ⟨_, rfl, sa, _, rfl, SqT.of hs, rfl, ?_⟩
    walk_at "rd"
    refine ⟨⟨_, SqT.of ha⟩, fun D nD => ?_⟩
    refine lc_depI (walk_tup (xs := xs)) nD (by omega) (fun _ sm => SqT.of (sm _ _ ha)) (fun i H z => ∃ e, es[i]? = some e ∧ EntT H z (sh u v e)) (fun i H H' z s ⟨e, he, h⟩ => ⟨e, he, h.same s⟩) (fun i H xs ys z hD ⟨e, he, h⟩ => ⟨e, he, h.mut hD⟩) (fun i x H6 H7 Kn Z hi sm _ y q => ?_) (fun H6 ys sm hD hl hr3 => ?_)
    · obtain ⟨rfl, hx⟩ := y
      obtain ⟨e, he, t, rfl, ht⟩ := el.at hx
      have ht' := sm _ _ ht
      refine ⟨t, _, rfl, SqT.of ht', rfl, ?_⟩
      walk_at "rd"
      exact fun p np => q _ _ (Same.new np) ⟨e, he, p, rfl, upd_same⟩
    · exact k D ys _ sm nD hD (el_of (hl.trans ln) hr3)
def spLie (K : PySem.W.Frag) : Sp := fun vs H Q _ => ∃ a b xs ys es fs, vs = [.ref a, .ref b] ∧ H a = some (.lst xs) ∧ EL H xs es ∧ H b = some (.tup ys) ∧ EL H ys fs ∧ es.length ≤ 8 ∧ (∀ e ∈ es, NmOk e) ∧ (∀ e ∈ fs, NmOk e) ∧
  ∀ H', L2.Same H H' → Q (.bl (among es fs)) H'
theorem d_lie (T : Txt K mg) : Df P w K mg base 1 "lie_among" ["entries", "others"] (spLie K) := by
  refine T.S_lie_among.by sc_lie_among (fun vs H Q E h => ?_) (fun f cdv A outer s H vs Q E hr hgd h => ?_)
  · obtain ⟨a, b, xs, ys, es, fs, rfl, _⟩ := h; rfl
  · obtain ⟨a, b, xs, ys, es, fs, rfl, ha, el, hb, elf, l1, ok1, ok2, k⟩ := h
    refine ⟨_, (pss_one (ps_ret (pe_callB (cr_all rfl) (by rfl) T.n_all (by decide +kernel) (pa_cons (pe_lc (own := [("entry", 2)]) rfl sc_lie_among.nd (pi_list (pv 0)) (blkOk_by (own := [("entry", 2)]) (N := ["entries", "others", "entry"]) (sc := defScope s_lie_among) (by decide +kernel)) (fun _ _ _ _ _ => (pg_name (i := 2) sc_lie_among.nd rfl (by first | exact Or.inl rfl | exact Or.inr rfl))) (fun _ _ _ _ _ => pts_nil) (fun _ _ _ _ _ => (pe_cmpR (op_inTK (C := K) rfl (un66 hr)) (pv 2) (pv 1) (by rfl)))) pa_nil)))), ?_⟩
    have ln := el.len
    refine ⟨_, rfl, a, rfl, ⟨_, SqL.of ha⟩, fun D nD => ?_⟩
    refine lc_pure (walk_list (xs := xs)) nD (by omega) (fun _ sm => SqL.of (sm _ _ ha)) (fun i y => ∃ e, es[i]? = some e ∧ y = .bl (decide (e ∈ fs))) (fun i x H4 H5 Kn Z hi sm y q => ?_) (fun H4 ys sm hD hl hr => ?_)
    · obtain ⟨rfl, hx⟩ := y
      obtain ⟨e, he, t, rfl, ht⟩ := el.at hx
      have ht' := sm _ _ ht
      refine ⟨rfl, _, rfl, _, rfl, eD e, fs.map eD, EntT.dp ⟨t, rfl, ht'⟩, .tup (SqT.of (sm _ _ hb)) (elf.same sm).dp, eD_sh (ok1 e (List.mem_of_getElem? he)), eDs_sh ok2, ?_⟩
      rw [any_eD]
      exact q _ _ (Same.refl _) ⟨e, he, rfl⟩
    · obtain rfl := vs_of (f := fun e => V.bl (decide (e ∈ fs))) (hl.trans ln) hr
      refine ⟨D, es.map fun e => decide (e ∈ fs), rfl, SqL.of (by rw [List.map_map]; exact hD), ?_⟩
      exact k _ sm
/-! shifts_among -/
def spSha (K : PySem.W.Frag) : Sp := fun vs H Q _ => ∃ a b xs ys es fs, vs = [.ref a, .ref b] ∧ H a = some (.tup xs) ∧ EL H xs es ∧ H b = some (.tup ys) ∧ EL H ys fs ∧ 1 ≤ es.length ∧ es.length ≤ 8 ∧ fs.length ≤ 8 ∧ (∀ e ∈ es, NmOk e) ∧ (∀ e ∈ fs, NmOk e) ∧
  ∀ p zs H', L2.Same H H' → H p = none → H' p = some (.lst zs) → PL H' zs (shfs es fs) → Q (.ref p) H'
theorem d_sha (T : Txt K mg) : Df P w K mg base 2 "shifts_among" ["entries", "others"] (spSha K) := by
  have D_shifted := d_shifted (P := P) (w := w) (base := base) T
  have D_lie_among := d_lie (P := P) (w := w) (base := base) T
  refine T.S_shifts_among.by sc_shifts_among (fun vs H Q E h => ?_) (fun f cdv A outer s H vs Q E hr hgd h => ?_)
  · obtain ⟨a, b, xs, ys, es, fs, rfl, _⟩ := h; rfl
  · obtain ⟨a, b, xs, ys, es, fs, rfl, ha, el, hb, elf, l0, l1, l2, ok1, ok2, k⟩ := h
    refine ⟨_, (pss_cons (ps_asg (pe_ix ix_tup (pv 0) pe_int (fun _ _ => rfl)) (pg_tup rfl (pgs_cons (pg_name (i := 2) sc_shifts_among.nd rfl (by first | exact Or.inl rfl | exact Or.inr rfl)) (pgs_cons (pg_name (i := 3) sc_shifts_among.nd rfl (by first | exact Or.inl rfl | exact Or.inr rfl)) (pgs_cons (pg_name (i := 4) sc_shifts_among.nd rfl (by first | exact Or.inl rfl | exact Or.inr rfl)) pgs_nil)))))
      (pss_cons (ps_setLc (i := 5) (own := [("across", 6), ("up", 7), ("name", 8)]) rfl sc_shifts_among.nd rfl rfl (sw_true rfl rfl rfl (by decide +kernel)) (pi_tup (pv 1)) (blkOk_by (own := [("across", 6), ("up", 7), ("name", 8)]) (N := ["entries", "others", "left", "bottom", "first", "shifts", "across", "up", "name", "shift"]) (sc := defScope s_shifts_among) (by decide +kernel)) (fun _ _ _ _ _ => (pg_tupK (K := K) (n := 3) rfl rfl (pgs_cons (pg_name (i := 6) sc_shifts_among.nd rfl (by first | exact Or.inl rfl | exact Or.inr rfl)) (pgs_cons (pg_name (i := 7) sc_shifts_among.nd rfl (by first | exact Or.inl rfl | exact Or.inr rfl)) (pgs_cons (pg_name (i := 8) sc_shifts_among.nd rfl (by first | exact Or.inl rfl | exact Or.inr rfl)) pgs_nil))))) (fun _ _ _ _ _ => pts_one (pt_cmpR op_eq (pv 8) (pv 4) (nomark _))) (fun _ _ _ _ _ => (pe_tup (pa_cons (pe_op op_sub (pv 6) (pv 2)) (pa_cons (pe_op op_sub (pv 7) (pv 3)) pa_nil)))))
      (pss_one (ps_ret (pe_lc (own := [("shift", 9)]) rfl sc_shifts_among.nd (pi_list (pv 5)) (blkOk_by (own := [("shift", 9)]) (N := ["entries", "others", "left", "bottom", "first", "shifts", "across", "up", "name", "shift"]) (sc := defScope s_shifts_among) (by decide +kernel)) (fun _ _ _ _ _ => (pg_name (i := 9) sc_shifts_among.nd rfl (by first | exact Or.inl rfl | exact Or.inr rfl))) (fun _ _ _ _ _ => pts_one (pt_val (pe_own D_lie_among (hr.mono (by first | decide | omega)) hgd (pa_cons (pe_own D_shifted (hr.mono (by first | decide | omega)) hgd (pa_cons (pv 0) (pa_cons (pv 9) pa_nil))) (pa_cons (pv 1) pa_nil))))) (fun _ _ _ _ _ => (pv 9))))))), ?_⟩
    have ln := el.len
    have lf := elf.len
    match es, l0 with
    | e0 :: es', _ =>
    match xs, ln with
    | x0 :: xs', _ =>
    obtain ⟨e, he, t0, rfl, ht0⟩ := el.at (i := 0) rfl
    cases he
    refine ⟨_, rfl, a, _, 0, _, rfl, rfl, SqT.of ha, atI_nat (j := 0) rfl, ?_⟩
    refine ⟨t0, _, rfl, SqT.of ht0, rfl, ?_⟩
    walk_at "rd"
    refine ⟨⟨_, SqT.of hb⟩, fun D nD => ?_⟩
    refine lc_fil (walk_tup (xs := ys)) nD (by omega) (fun _ sm => SqT.of (sm _ _ hb)) (fun i => fs[i]?.bind fun f => if f.2.2 = e0.2.2 then some (f.1 - e0.1, f.2.1 - e0.2.1) else none) PrT (fun H H' v c s h => h.same s) (fun H xs ys v c hD h => h.mut hD) (fun i x H4 H5 Kn Z hi sm _ y q n => ?_) (fun H4 zs sm hD hp => ?_)
    · obtain ⟨rfl, hx⟩ := y
      obtain ⟨f, hf, t, rfl, ht⟩ := elf.at hx
      have ht' := sm _ _ ht
      rw [hf, Option.bind_some] at q n
      refine ⟨t, _, rfl, SqT.of ht', rfl, ?_⟩
      walk_at "rd"
      by_cases c : f.2.2 = e0.2.2
      · rw [decide_eq_true (by rw [c])]
        refine iteT ?_
        walk_at "rd"
        exact fun p np => q _ _ _ (by rw [if_pos c]) (Same.new np) ⟨p, rfl, upd_same⟩
      · rw [decide_eq_false fun z => c (V.str.inj z)]
        exact iteF (n (by rw [if_neg c]) _ (Same.refl _))
    · rw [lf, range_fil] at hp
      refine ⟨_, rfl, D, rfl, ⟨_, SqL.of hD⟩, fun D2 nD2 => ?_⟩
      have hl := hp.length
      have hl2 := List.length_filterMap_le (fun f : Ent => if f.2.2 = e0.2.2 then some (f.1 - e0.1, f.2.1 - e0.2.1) else none) fs
      refine lc_fil (walk_list (xs := zs)) nD2 (by omega) (fun _ sm2 => SqL.of (sm2 _ _ hD)) (fun i => (shOf e0 fs)[i]?.bind fun p => if among ((e0 :: es').map (sh p.1 p.2)) fs = true then some p else none) PrT (fun H H' v c s h => h.same s) (fun H xs ys v c hD h => h.mut hD) (fun i x H5 H6 Kn Z hi sm2 _ y q n => ?_) (fun H5 us sm2 hD2 hp2 => ?_)
      · obtain ⟨rfl, hx⟩ := y
        obtain ⟨p, hpi, t, rfl, ht⟩ := pd_at hp hx
        have hpi : (shOf e0 fs)[i]? = some p := hpi
        rw [hpi, Option.bind_some] at q n
        have ht' := sm2 _ _ ht
        have s5 := sm.trans sm2
        refine ⟨rfl, _, rfl, _, rfl, a, t, _, _, p.1, p.2, rfl, s5 _ _ ha, el.same s5, by omega, ht', fun r ws H7 s7 nr hr elr => ?_⟩
        have s6 := s5.trans s7
        refine ⟨_, rfl, r, b, ws, ys, _, fs, rfl, hr, elr, s6 _ _ hb, elf.same s6, by rw [List.length_map]; omega, fun e he => ?_, ok2, fun H8 s8 => ?_⟩
        · obtain ⟨e1, h1, rfl⟩ := List.mem_map.mp he
          exact ok1 e1 h1
        · refine ⟨_, rfl, ?_⟩
          by_cases c : among ((e0 :: es').map (sh p.1 p.2)) fs = true
          · rw [c]
            refine iteT ⟨_, rfl, ?_⟩
            have s9 := s7.trans s8
            exact q _ p _ (by rw [if_pos c]) s9 ⟨t, rfl, s9 _ _ ht'⟩
          · rw [Bool.eq_false_iff.mpr c]
            exact iteF (n (by rw [if_neg c]) _ (s7.trans s8))
      · rw [show zs.length = (shOf e0 fs).length from hl, range_fil] at hp2
        exact k D2 us _ (sm.trans sm2) (sm.free nD2) hD2 hp2
/-! shifts_in, <=, >= -/
def spShi (K : PySem.W.Frag) : Sp := fun vs H Q _ => ∃ a b es fs m1 m2 n1 n2, vs = [.ref a, .ref b] ∧ KindAt K H a es m1 m2 ∧ KindAt K H b fs n1 n2 ∧ Due es ∧ Due fs ∧ ∀ p zs H', L2.Same H H' → H p = none → H' p = some (.lst zs) → PL H' zs (shfs es fs) → Q (.ref p) H'
theorem Due.nm {es : List Ent} (d : Due es) : ∀ e ∈ es, NmOk e := fun e he => (d.ok.ok e he).2.2.2.2
theorem d_shi (T : Txt K mg) : MDf P w K mg base 3 (He.ma K (kc K) "shifts_in") ["self", "other"] (spShi K) := by
  have D_shifts_among := d_sha (P := P) (w := w) (base := base) T
  refine T.M_shifts_in.by sc_Kind_shifts_in (fun vs H Q E h => ?_) (fun f cdv A outer s H vs Q E hr hgd h => ?_)
  · obtain ⟨a, b, es, fs, m1, m2, n1, n2, rfl, _⟩ := h; rfl
  · obtain ⟨a, b, es, fs, m1, m2, n1, n2, rfl, ⟨dx, t, r, zs, ha, hdx, ht, el, hrr⟩, ⟨dx2, t2, r2, zs2, ha2, hdx2, ht2, el2, hrr2⟩, d1, d2, k⟩ := h
    refine ⟨_, (pss_one (ps_ret (pe_own D_shifts_among (hr.mono (by first | decide | omega)) hgd (pa_cons (pe_fld (pv 0) rfl) (pa_cons (pe_fld (pv 1) rfl) pa_nil))))), ?_⟩
    have l0 := d1.ok.l0
    have l1 := d1.ok.l1
    have l2 := d2.ok.l1
    refine ⟨_, rfl, a, kc K, dx, _, _, rfl, ha, T.cls, T.no_entries, rfl, _, rfl, b, kc K, dx2, _, _, rfl, ha2, T.cls, T.no_entries, rfl, ?_⟩
    exact ⟨t, t2, zs, zs2, es, fs, rfl, ht, el, ht2, el2, by omega, by omega, by omega, d1.nm, d2.nm, k⟩
def spLe (K : PySem.W.Frag) (back : Bool) : Sp := fun vs H Q _ => ∃ a b es fs m1 m2 n1 n2, vs = [.ref a, .ref b] ∧ KindAt K H a es m1 m2 ∧ KindAt K H b fs n1 n2 ∧ Due es ∧ Due fs ∧ ∀ H', L2.Same H H' → Q (.bl (if back then decide (shfs fs es ≠ []) else decide (shfs es fs ≠ []))) H'
theorem pos_ne {α : Type} {l : List α} : decide ((0 : Int) < ((l.length : Nat) : Int)) = decide (l ≠ []) := by
  cases l with
  | nil => rfl
  | cons a t => rw [decide_eq_true (show (0 : Int) < (((a :: t).length : Nat) : Int) by simp only [List.length_cons]; omega), decide_eq_true (show (a :: t) ≠ [] by simp)]
theorem d_le (T : Txt K mg) : MDf P w K mg base 3 (He.ma K (kc K) "__le__") ["self", "other"] (spLe K false) := by
  have D_shifts_among := d_sha (P := P) (w := w) (base := base) T
  refine T.M___le__.by sc_Kind___le (fun vs H Q E h => ?_) (fun f cdv A outer s H vs Q E hr hgd h => ?_)
  · obtain ⟨a, b, es, fs, m1, m2, n1, n2, rfl, _⟩ := h; rfl
  · obtain ⟨a, b, es, fs, m1, m2, n1, n2, rfl, ⟨dx, t, r, zs, ha, hdx, ht, el, hrr⟩, ⟨dx2, t2, r2, zs2, ha2, hdx2, ht2, el2, hrr2⟩, d1, d2, k⟩ := h
    refine ⟨_, (pss_cons (ps_if (pt_not (pt_val (pe_callB (Exv.call_isE T.gs) (by rfl) T.n_isinstance (by decide +kernel) (pa_cons (pv 1) (pa_cons (pe_glob (v := .ref (He.ga K "Kind")) (by rfl) T.g_Kind rfl) pa_nil))))) (pss_one ps_never) pss_nil)
      (pss_one (ps_ret (pe_cmpR op_gt (pe_callB call_len_seq (by rfl) T.n_len PySem.boot_len (pa_cons (pe_own D_shifts_among (hr.mono (by first | decide | omega)) hgd (pa_cons (pe_fld (pv 0) rfl) (pa_cons (pe_fld (pv 1) rfl) pa_nil))) pa_nil)) pe_int (nomark _))))), ?_⟩
    have l0 := d1.ok.l0
    have l1 := d1.ok.l1
    have l2 := d2.ok.l1
    refine ⟨_, rfl, .ref b, .ref (kc K), .ref (kc K), .ref (kc K), true, rfl, .own _, .base (own_ty T ha2), T.kk, true, rfl, iteF ?_⟩
    refine ⟨_, rfl, a, kc K, dx, _, _, rfl, ha, T.cls, T.no_entries, rfl, _, rfl, b, kc K, dx2, _, _, rfl, ha2, T.cls, T.no_entries, rfl, ?_⟩
    refine ⟨t, t2, zs, zs2, es, fs, rfl, ht, el, ht2, el2, by omega, by omega, by omega, d1.nm, d2.nm, fun p us H1 s1 np hp pl => ?_⟩
    refine ⟨p, us, rfl, .inl (SqL.of hp), us.length, 0, rfl, rfl, ?_⟩
    dsimp only
    rw [show us.length = (shfs es fs).length from pl.length, pos_ne]
    exact k _ s1
theorem d_ge (T : Txt K mg) : MDf P w K mg base 3 (He.ma K (kc K) "__ge__") ["self", "other"] (spLe K true) := by
  have D_shifts_among := d_sha (P := P) (w := w) (base := base) T
  refine T.M___ge__.by sc_Kind___ge (fun vs H Q E h => ?_) (fun f cdv A outer s H vs Q E hr hgd h => ?_)
  · obtain ⟨a, b, es, fs, m1, m2, n1, n2, rfl, _⟩ := h; rfl
  · obtain ⟨a, b, es, fs, m1, m2, n1, n2, rfl, ⟨dx, t, r, zs, ha, hdx, ht, el, hrr⟩, ⟨dx2, t2, r2, zs2, ha2, hdx2, ht2, el2, hrr2⟩, d1, d2, k⟩ := h
    refine ⟨_, (pss_cons (ps_if (pt_not (pt_val (pe_callB (Exv.call_isE T.gs) (by rfl) T.n_isinstance (by decide +kernel) (pa_cons (pv 1) (pa_cons (pe_glob (v := .ref (He.ga K "Kind")) (by rfl) T.g_Kind rfl) pa_nil))))) (pss_one ps_never) pss_nil)
      (pss_one (ps_ret (pe_cmpR op_gt (pe_callB call_len_seq (by rfl) T.n_len PySem.boot_len (pa_cons (pe_own D_shifts_among (hr.mono (by first | decide | omega)) hgd (pa_cons (pe_fld (pv 1) rfl) (pa_cons (pe_fld (pv 0) rfl) pa_nil))) pa_nil)) pe_int (nomark _))))), ?_⟩
    have l0 := d2.ok.l0
    have l1 := d2.ok.l1
    have l2 := d1.ok.l1
    refine ⟨_, rfl, .ref b, .ref (kc K), .ref (kc K), .ref (kc K), true, rfl, .own _, .base (own_ty T ha2), T.kk, true, rfl, iteF ?_⟩
    refine ⟨_, rfl, b, kc K, dx2, _, _, rfl, ha2, T.cls, T.no_entries, rfl, _, rfl, a, kc K, dx, _, _, rfl, ha, T.cls, T.no_entries, rfl, ?_⟩
    refine ⟨t2, t, zs2, zs, fs, es, rfl, ht2, el2, ht, el, by omega, by omega, by omega, d2.nm, d1.nm, fun p us H1 s1 np hp pl => ?_⟩
    refine ⟨p, us, rfl, .inl (SqL.of hp), us.length, 0, rfl, rfl, ?_⟩
    dsimp only
    rw [show us.length = (shfs fs es).length from pl.length, pos_ne]
    exact k _ s1
end
end K12

set_option Elab.async false
set_option linter.all false
set_option maxRecDepth 100000
set_option maxHeartbeats 4000000
namespace K12
open PySem L2 Lay Own SrtO
/-! ### the shifts, told two ways -/
def pE (p : Int × Int) : Ent := (p.1, p.2, "")
def pLt (p q : Int × Int) : Bool := entLt (pE p) (pE q)
theorem pE_inj {p q : Int × Int} (h : pE p = pE q) : p = q := by
  obtain ⟨a, b⟩ := p
  obtain ⟨c, d⟩ := q
  simp only [pE, Prod.mk.injEq] at h
  rw [h.1, h.2.1]
theorem tot_p : Tot pLt where
  irr := fun x => tot_ent.irr _
  tr := fun x y z => tot_ent.tr _ _ _
  tri := fun x y => by
    rcases tot_ent.tri (pE x) (pE y) with h | h | h
    · exact .inl h
    · exact .inr (.inl (pE_inj h))
    · exact .inr (.inr h)
theorem among_iff {es fs : List Ent} : among es fs = true ↔ ∀ e ∈ es, e ∈ fs := by
  unfold among
  rw [List.all_eq_true]
  constructor
  · intro h e he
    exact of_decide_eq_true (h _ (List.mem_map.mpr ⟨e, he, rfl⟩))
  · intro h b hb
    obtain ⟨e, he, rfl⟩ := List.mem_map.mp hb
    exact decide_eq_true (h e he)
def LiesAt (es fs : List Ent) (p : Int × Int) : Prop := ∀ e ∈ es, sh p.1 p.2 e ∈ fs
theorem among_sh {es fs : List Ent} {p : Int × Int} : among (es.map (sh p.1 p.2)) fs = true ↔ LiesAt es fs p := by
  rw [among_iff]
  constructor
  · exact fun h e he => h _ (List.mem_map.mpr ⟨e, he, rfl⟩)
  · intro h e he
    obtain ⟨g, hg, rfl⟩ := List.mem_map.mp he
    exact h g hg
theorem mem_shfs {es fs : List Ent} {p : Int × Int} (l : 1 ≤ es.length) : p ∈ shfs es fs ↔ LiesAt es fs p := by
  match es, l with
  | e0 :: es, _ =>
    show p ∈ (shOf e0 fs).filterMap _ ↔ _
    rw [List.mem_filterMap]
    constructor
    · rintro ⟨q, hq, e⟩
      by_cases c : among ((e0 :: es).map (sh q.1 q.2)) fs = true
      · rw [if_pos c] at e
        cases e
        exact among_sh.mp c
      · rw [if_neg c] at e
        cases e
    · intro h
      refine ⟨p, ?_, by rw [if_pos (among_sh.mpr h)]⟩
      unfold shOf
      rw [List.mem_filterMap]
      refine ⟨_, h e0 (List.mem_cons_self ..), ?_⟩
      rw [if_pos (show (sh p.1 p.2 e0).2.2 = e0.2.2 from rfl)]
      obtain ⟨a, b⟩ := p
      show some ((e0.1 + a) - e0.1, (e0.2.1 + b) - e0.2.1) = some (a, b)
      rw [show e0.1 + a - e0.1 = a by omega, show e0.2.1 + b - e0.2.1 = b by omega]
theorem sd_shfs {es fs : List Ent} (sd : Sd entLt fs) (nd : fs.Nodup) : Sd pLt (shfs es fs) ∧ (shfs es fs).Nodup := by
  cases es with
  | nil => exact ⟨List.Pairwise.nil, List.nodup_nil⟩
  | cons e0 es =>
    have out : ∀ (f : Ent) (p : Int × Int), (if f.2.2 = e0.2.2 then some (f.1 - e0.1, f.2.1 - e0.2.1) else none) = some p → f = (p.1 + e0.1, p.2 + e0.2.1, e0.2.2) := by
      intro f p h
      by_cases c : f.2.2 = e0.2.2
      · rw [if_pos c] at h
        cases h
        obtain ⟨a, b, z⟩ := f
        obtain rfl : z = e0.2.2 := c
        show (a, b, e0.2.2) = (a - e0.1 + e0.1, b - e0.2.1 + e0.2.1, e0.2.2)
        rw [show a - e0.1 + e0.1 = a by omega, show b - e0.2.1 + e0.2.1 = b by omega]
      · rw [if_neg c] at h
        cases h
    have lt_of : ∀ p q : Int × Int, entLt (p.1 + e0.1, p.2 + e0.2.1, e0.2.2) (q.1 + e0.1, q.2 + e0.2.1, e0.2.2) = pLt p q := by
      intro p q
      unfold pLt pE entLt
      simp only
      have r1 : strLt e0.2.2 e0.2.2 = false := tot_str.irr _
      have r2 : strLt "" "" = false := tot_str.irr _
      rw [r1, r2]
      by_cases c : p.1 = q.1
      · rw [if_pos c, if_pos (show p.1 + e0.1 = q.1 + e0.1 by omega)]
        by_cases d : p.2 = q.2
        · rw [if_pos d, if_pos (show p.2 + e0.2.1 = q.2 + e0.2.1 by omega)]
        · rw [if_neg d, if_neg (show ¬ p.2 + e0.2.1 = q.2 + e0.2.1 by omega)]
          by_cases x : p.2 < q.2
          · rw [decide_eq_true x, decide_eq_true (show p.2 + e0.2.1 < q.2 + e0.2.1 by omega)]
          · rw [decide_eq_false x, decide_eq_false (show ¬ p.2 + e0.2.1 < q.2 + e0.2.1 by omega)]
      · rw [if_neg c, if_neg (show ¬ p.1 + e0.1 = q.1 + e0.1 by omega)]
        by_cases x : p.1 < q.1
        · rw [decide_eq_true x, decide_eq_true (show p.1 + e0.1 < q.1 + e0.1 by omega)]
        · rw [decide_eq_false x, decide_eq_false (show ¬ p.1 + e0.1 < q.1 + e0.1 by omega)]
    have s1 : (shOf e0 fs).Pairwise fun a b => pLt b a = false := List.Pairwise.filterMap _ (fun a a' h b hb b' hb' => by
      rw [← lt_of, ← out a b hb, ← out a' b' hb']
      exact h) sd
    have n1 : (shOf e0 fs).Pairwise fun a b => a ≠ b := List.Pairwise.filterMap _ (fun a a' h b hb b' hb' e => h (by rw [out a b hb, out a' b' hb', e])) nd
    have keep : ∀ (p q : Int × Int), (if among ((e0 :: es).map (sh p.1 p.2)) fs = true then some p else none) = some q → p = q := by
      intro p q h
      by_cases c : among ((e0 :: es).map (sh p.1 p.2)) fs = true
      · rw [if_pos c] at h; cases h; rfl
      · rw [if_neg c] at h; cases h
    exact ⟨List.Pairwise.filterMap _ (fun a a' h b hb b' hb' => by rw [← keep a b hb, ← keep a' b' hb']; exact h) s1, List.Pairwise.filterMap _ (fun a a' h b hb b' hb' => by rw [← keep a b hb, ← keep a' b' hb']; exact h) n1⟩
/-- the n first places of the law's square, those at which es lies in fs -/
def cell (k : Nat) : Int × Int := (((k / 4 : Nat) : Int), ((k % 4 : Nat) : Int))
def lawS (es fs : List Ent) (n : Nat) : List (Int × Int) := (List.range n).filterMap fun k => if among (es.map (sh (cell k).1 (cell k).2)) fs = true then some (cell k) else none
theorem lawS_succ {es fs : List Ent} {n : Nat} : lawS es fs (n + 1) = lawS es fs n ++ (if among (es.map (sh (cell n).1 (cell n).2)) fs = true then [cell n] else []) := by
  unfold lawS
  rw [List.range_succ, List.filterMap_append]
  by_cases c : among (es.map (sh (cell n).1 (cell n).2)) fs = true
  · rw [if_pos c, show List.filterMap _ [n] = [cell n] by simp [c]]
  · rw [if_neg c, show List.filterMap _ [n] = [] by simp [c]]
theorem lies_near {es fs : List Ent} {p : Int × Int} (d1 : Due es) (d2 : Due fs) (h : LiesAt es fs p) : ∃ k, k < 16 ∧ cell k = p := by
  obtain ⟨e, he, q1⟩ := List.mem_map.mp d1.x0.1
  obtain ⟨g, hg, q2⟩ := List.mem_map.mp d1.y0.1
  have q1 : e.1 = 0 := q1
  have q2 : g.2.1 = 0 := q2
  have b1 := d2.x0.2 _ (List.mem_map.mpr ⟨_, h e he, rfl⟩)
  have b2 := d2.y0.2 _ (List.mem_map.mpr ⟨_, h g hg, rfl⟩)
  have b3 := (d2.le _ (h e he)).1
  have b4 := (d2.le _ (h g hg)).2
  obtain ⟨a, b⟩ := p
  have b1 : 0 ≤ e.1 + a := b1
  have b2 : 0 ≤ g.2.1 + b := b2
  have b3 : e.1 + a ≤ 3 := b3
  have b4 : g.2.1 + b ≤ 3 := b4
  refine ⟨4 * a.toNat + b.toNat, by omega, ?_⟩
  unfold cell
  have e1 : (4 * a.toNat + b.toNat) / 4 = a.toNat := by omega
  have e2 : (4 * a.toNat + b.toNat) % 4 = b.toNat := by omega
  rw [e1, e2, Int.toNat_of_nonneg (by omega), Int.toNat_of_nonneg (by omega)]
theorem mem_lawS {es fs : List Ent} {n : Nat} {p : Int × Int} : p ∈ lawS es fs n ↔ LiesAt es fs p ∧ ∃ k, k < n ∧ cell k = p := by
  unfold lawS
  rw [List.mem_filterMap]
  constructor
  · rintro ⟨k, hk, e⟩
    by_cases c : among (es.map (sh (cell k).1 (cell k).2)) fs = true
    · rw [if_pos c] at e
      cases e
      exact ⟨among_sh.mp c, k, List.mem_range.mp hk, rfl⟩
    · rw [if_neg c] at e
      cases e
  · rintro ⟨h, k, hk, rfl⟩
    exact ⟨k, List.mem_range.mpr hk, by rw [if_pos (among_sh.mpr h)]⟩
theorem shfs_law {es fs : List Ent} (d1 : Due es) (d2 : Due fs) : shfs es fs = lawS es fs 16 := by
  have l0 := d1.ok.l0
  obtain ⟨s1, n1⟩ := sd_shfs (es := es) d2.sd d2.ok.nd
  have cs : ((List.range 16).map cell).Pairwise fun a b => pLt b a = false := by decide +kernel
  have cn : ((List.range 16).map cell).Pairwise fun a b => a ≠ b := by decide +kernel
  have keep : ∀ (k : Nat) (q : Int × Int), (if among (es.map (sh (cell k).1 (cell k).2)) fs = true then some (cell k) else none) = some q → cell k = q := by
    intro k q h
    by_cases c : among (es.map (sh (cell k).1 (cell k).2)) fs = true
    · rw [if_pos c] at h; cases h; rfl
    · rw [if_neg c] at h; cases h
  have s2 : Sd pLt (lawS es fs 16) := List.Pairwise.filterMap _ (fun a a' h b hb b' hb' => by rw [← keep a b hb, ← keep a' b' hb']; exact h) (List.pairwise_map.mp cs)
  have n2 : (lawS es fs 16).Nodup := List.Pairwise.filterMap _ (fun a a' h b hb b' hb' => by rw [← keep a b hb, ← keep a' b' hb']; exact h) (List.pairwise_map.mp cn)
  refine sd_uniq tot_p ((List.perm_ext_iff_of_nodup n1 n2).mpr fun p => ?_) s1 s2
  rw [mem_shfs (by omega), mem_lawS]
  exact ⟨fun h => ⟨h, lies_near d1 d2 h⟩, fun h => h.1⟩
theorem shfs_ne {es fs : List Ent} (l : 1 ≤ es.length) : shfs es fs ≠ [] ↔ ∃ p, LiesAt es fs p := by
  constructor
  · intro h
    obtain ⟨p, hp⟩ := List.exists_mem_of_ne_nil _ h
    exact ⟨p, (mem_shfs l).mp hp⟩
  · rintro ⟨p, hp⟩ e
    have z := (mem_shfs l).mpr hp
    rw [e] at z
    cases z
theorem sh_inj {u v : Int} {e f : Ent} (h : sh u v e = sh u v f) : e = f := by
  obtain ⟨a, b, c⟩ := e
  obtain ⟨a', b', c'⟩ := f
  simp only [sh, Prod.mk.injEq] at h
  obtain ⟨h1, h2, h3⟩ := h
  rw [show a = a' by omega, show b = b' by omega, h3]
theorem len_sub {α : Type} [DecidableEq α] : ∀ {l m : List α}, l.Nodup → (∀ x ∈ l, x ∈ m) → l.length ≤ m.length
  | [], m, _, _ => Nat.zero_le _
  | a :: t, m, n, h => by
    have hn := List.nodup_cons.mp n
    have ha := h a (List.mem_cons_self ..)
    have ih := len_sub (m := m.erase a) hn.2 fun x hx => (List.mem_erase_of_ne (fun e => hn.1 (by rw [← e]; exact hx))).mpr (h x (List.mem_cons_of_mem _ hx))
    have e := List.length_erase_of_mem ha
    have p : 0 < m.length := List.length_pos_of_mem ha
    rw [List.length_cons]
    omega
theorem perm_sub {α : Type} [DecidableEq α] : ∀ {l m : List α}, l.Nodup → (∀ x ∈ l, x ∈ m) → m.length ≤ l.length → l.Perm m
  | [], m, _, _, q => by
    have e : m = [] := List.eq_nil_of_length_eq_zero (Nat.le_zero.mp q)
    rw [e]
  | a :: t, m, n, h, q => by
    have hn := List.nodup_cons.mp n
    have ha := h a (List.mem_cons_self ..)
    have e := List.length_erase_of_mem ha
    rw [List.length_cons] at q
    have ih := perm_sub (m := m.erase a) hn.2 (fun x hx => (List.mem_erase_of_ne (fun e => hn.1 (by rw [← e]; exact hx))).mpr (h x (List.mem_cons_of_mem _ hx))) (by omega)
    exact (ih.cons a).trans (List.perm_cons_erase ha).symm
/-- each in the other one: the same -/
theorem lies_both {es fs : List Ent} {p q : Int × Int} (d1 : Due es) (d2 : Due fs) (h : LiesAt es fs p) (g : LiesAt fs es q) : es = fs := by
  have n1 : (es.map (sh p.1 p.2)).Nodup := nodup_map (fun a b => sh_inj) d1.ok.nd
  have n2 : (fs.map (sh q.1 q.2)).Nodup := nodup_map (fun a b => sh_inj) d2.ok.nd
  have i1 : ∀ x ∈ es.map (sh p.1 p.2), x ∈ fs := fun x hx => by
    obtain ⟨e, he, rfl⟩ := List.mem_map.mp hx
    exact h e he
  have i2 : ∀ x ∈ fs.map (sh q.1 q.2), x ∈ es := fun x hx => by
    obtain ⟨e, he, rfl⟩ := List.mem_map.mp hx
    exact g e he
  have k2 := len_sub n2 i2
  rw [List.length_map] at k2
  have pm : (es.map (sh p.1 p.2)).Perm fs := perm_sub n1 i1 (by rw [List.length_map]; exact k2)
  have z1 : p.1 = 0 := by
    obtain ⟨e, he, q1⟩ := List.mem_map.mp d1.x0.1
    obtain ⟨f, hf, q2⟩ := List.mem_map.mp d2.x0.1
    have b1 := d2.x0.2 _ (List.mem_map.mpr ⟨_, h e he, rfl⟩)
    obtain ⟨e2, he2, rfl⟩ := List.mem_map.mp (pm.mem_iff.mpr hf)
    have b2 := d1.x0.2 _ (List.mem_map.mpr ⟨_, he2, rfl⟩)
    have q1 : e.1 = 0 := q1
    have q2 : e2.1 + p.1 = 0 := q2
    have b1 : 0 ≤ e.1 + p.1 := b1
    omega
  have z2 : p.2 = 0 := by
    obtain ⟨e, he, q1⟩ := List.mem_map.mp d1.y0.1
    obtain ⟨f, hf, q2⟩ := List.mem_map.mp d2.y0.1
    have b1 := d2.y0.2 _ (List.mem_map.mpr ⟨_, h e he, rfl⟩)
    obtain ⟨e2, he2, rfl⟩ := List.mem_map.mp (pm.mem_iff.mpr hf)
    have b2 := d1.y0.2 _ (List.mem_map.mpr ⟨_, he2, rfl⟩)
    have q1 : e.2.1 = 0 := q1
    have q2 : e2.2.1 + p.2 = 0 := q2
    have b1 : 0 ≤ e.2.1 + p.2 := b1
    omega
  rw [z1, z2] at pm
  have id0 : es.map (sh 0 0) = es := by
    have e : sh 0 0 = id := by
      funext x
      obtain ⟨a, b, c⟩ := x
      simp [sh]
    rw [e, List.map_id]
  rw [id0] at pm
  exact sd_uniq tot_ent pm d1.sd d2.sd
end K12

set_option Elab.async false
set_option linter.all false
set_option maxRecDepth 100000
set_option maxHeartbeats 4000000
namespace K12
open PySem L2 Lay Own SrtO
local macro_rules | `(tactic| walk_at "ne") => `(tactic| first | assumption | (apply Ne.symm; assumption) | exact ne_of_none (by walk_at "look") (by assumption) | exact (ne_of_none (by walk_at "look") (by assumption)).symm)
local macro_rules | `(tactic| walk_at "look") => `(tactic| first | assumption | exact upd_same | (refine Eq.trans (upd_ne ?_) ?_; walk_at "ne"; walk_at "look"))
local macro_rules | `(tactic| walk_at "rds") => `(tactic| first | rfl | assumption | walk_at "look" | exact SqL.of (by walk_at "look") | exact SqT.of (by walk_at "look") | exact Or.inl (SqL.of (by walk_at "look")) | exact Or.inl (by assumption) | decide | omega | exact Nat.le_of_ble_eq_true rfl | exact Or.inr ⟨by decide, by decide⟩ | exact Or.inl ⟨by omega, by omega⟩ | exact ⟨by decide, by decide⟩)
local macro_rules | `(tactic| walk_at "rd1") => `(tactic| first | (apply Exists.intro) | (refine And.intro ?_ ?_; walk_at "rds") | (refine Or.inl ?_; apply Exists.intro; refine And.intro ?_ ?_; rfl))
local macro_rules | `(tactic| walk_at "rd") => `(tactic| repeat walk_at "rd1")
section
variable {P : Program} {w : World} {K : PySem.W.Frag} {mg : Str → Option Value} {base : Heap}
theorem op_inDK {cx : Cx} {C : PySem.W.Frag} (h : cx.K = C) (hu : cx.A.units + 65 < cLine) : OpR cx (compareOp .In) (rInD C) := h ▸ op_inD hu
theorem op_notInDK {cx : Cx} {C : PySem.W.Frag} (h : cx.K = C) (hu : cx.A.units + 65 < cLine) : OpR cx (compareOp .NotIn) (rNotInD C) := h ▸ op_notInD hu
theorem un65 {k : Nat} {B : Around} (hr : Room k B) : B.units + 65 < cLine := by
  have := hr.un
  omega
theorem Due.bd {es : List Ent} (d : Due es) : ∀ e ∈ es, 0 ≤ e.1 ∧ e.1 ≤ 3 ∧ 0 ≤ e.2.1 ∧ e.2.1 ≤ 3 := fun e he =>
  ⟨d.x0.2 _ (List.mem_map.mpr ⟨e, he, rfl⟩), (d.le e he).1, d.y0.2 _ (List.mem_map.mpr ⟨e, he, rfl⟩), (d.le e he).2⟩
/-! part -/
def spPart (K : PySem.W.Frag) : Sp := fun vs H Q _ => ∃ p a xs es, vs = [.ref p, .ref a] ∧ H p = some (PotO p) ∧ H a = some (.lst xs) ∧ EL H xs es ∧ Due es ∧
  ∀ l zs gs H' q, L2.Same H H' → H l = none → H' l = some (.lst zs) → EL H' zs gs → Due gs → LiesAt gs es q → Q (.ref l) H'
theorem nrm_lies {es gs : List Ent} (n : Nrm es gs) : ∃ q, LiesAt gs es q := by
  obtain ⟨lo, bo, _, _, pm, _⟩ := n
  refine ⟨(lo, bo), fun g hg => ?_⟩
  obtain ⟨e, he, rfl⟩ := List.mem_map.mp (pm.mem_iff.mp hg)
  obtain ⟨a, b, c⟩ := e
  show (a - lo + lo, b - bo + bo, c) ∈ es
  rw [show a - lo + lo = a by omega, show b - bo + bo = b by omega]
  exact he
theorem d_part (T : Txt K mg) : Df P w K mg base 2 "_law_part" ["_law_pot_here", "_law_some"] (spPart K) := by
  have D_l_draw := d_draw (P := P) (w := w) (base := base) T
  have D_l_normed := d_lnormed (P := P) (w := w) (base := base) T
  refine T.S_l_part.by sc_l_part (fun vs H Q E h => ?_) (fun f cdv A outer s H vs Q E hr hgd h => ?_)
  · obtain ⟨p, a, xs, es, rfl, _⟩ := h; rfl
  · obtain ⟨p, a, xs, es, rfl, hp, ha, el, du, k⟩ := h
    refine ⟨_, (pss_cons (ps_par (i := 2) (j := 3) rfl sc_l_part.nd rfl rfl (by decide) rfl rfl (pa_cons (pe_callTy call_list_of (by rfl) T.n_list (by decide +kernel) (pa_cons (pv 1) pa_nil)) (pa_cons (pe_lst pa_nil) pa_nil)) (by first | rfl | with_unfolding_all rfl))
      (pss_cons (ps_for PassesOwn.never rfl (pi_range1 (by rfl) T.n_range (pa_cons (pe_op op_add pe_int (pe_own D_l_draw (hr.mono (by first | decide | omega)) hgd (pa_cons (pv 0) (pa_cons (pe_op op_sub (pe_callB call_len_seq (by rfl) T.n_len PySem.boot_len (pa_cons (pv 1) pa_nil)) pe_int) pa_nil)))) pa_nil)) (pg_name (i := 4) sc_l_part.nd rfl (by first | exact Or.inl rfl | exact Or.inr rfl)) (pss_one (ps_expr (pe_bm PySem.F.plainAttrs_list PySem.F.slot_list_append PySem.F.type_list_append mt_append (pv 3) (pa_cons (pe_bm PySem.F.plainAttrs_list PySem.F.slot_list_pop PySem.F.type_list_pop mt_popAt (pv 2) (pa_cons (pe_own D_l_draw (hr.mono (by first | decide | omega)) hgd (pa_cons (pv 0) (pa_cons (pe_callB call_len_seq (by rfl) T.n_len PySem.boot_len (pa_cons (pv 2) pa_nil)) pa_nil))) pa_nil)) pa_nil)))))
      (pss_one (ps_ret (pe_own D_l_normed (hr.mono (by first | decide | omega)) hgd (pa_cons (pv 3) pa_nil)))))), ?_⟩
    have ln := el.len
    have l0 := du.ok.l0
    have l1 := du.ok.l1
    refine ⟨_, rfl, a, xs, rfl, .inl (SqL.of ha), fun b nb => ?_⟩
    walk_at "rd"
    intro o no
    refine ⟨_, _, rfl, ?_⟩
    have ob : o ≠ b := fun z => by rw [z, upd_same] at no; cases no
    have no' : H o = none := by rw [upd_ne ob] at no; exact no
    have s0 : L2.Same H (upd (upd H b (.lst xs)) o (.lst [])) := (Same.new nb).trans (Same.new no)
    have b0 : (upd (upd H b (.lst xs)) o (.lst [])) b = some (.lst xs) := by rw [upd_ne (Ne.symm ob)]; exact upd_same
    have o0 : (upd (upd H b (.lst xs)) o (.lst [])) o = some (.lst []) := upd_same
    generalize upd (upd H b (.lst xs)) o (.lst []) = H0 at s0 b0 o0
    refine ⟨_, rfl, _, rfl, a, xs, rfl, .inl (SqL.of (s0 _ _ ha)), _, _, rfl, rfl, p, (xs.length : Int) - 1, rfl, s0 _ _ hp, by omega, Int.lt_of_le_of_lt (b := 64) (by omega) (by decide), fun d H1 d0 d1 s1 => ?_⟩
    have t0 := s0.trans s1
    refine ⟨_, _, rfl, rfl, 2 + d, rfl, by omega, by omega, ?_⟩
    refine for_it walk_range (fun i σ H' => ∃ (a4 : Option V) (ls fs : List V), σ = [some (.ref p), some (.ref a), some (.ref b), some (.ref o), a4] ∧ L2.Same H H' ∧ H' b = some (.lst ls) ∧ H' o = some (.lst fs) ∧ (ls ++ fs).Perm xs ∧ fs.length = i)
      ⟨_, xs, [], rfl, t0, s1 _ _ b0, s1 _ _ o0, by rw [List.append_nil], rfl⟩ (fun _ _ _ _ _ => trivial) (fun i x σ H2 H3 hi hP y => ?_) (fun σ H2 hP => ?_)
    · obtain ⟨a4, ls, fs, rfl, s2, hb, ho, pm, lf⟩ := hP
      obtain ⟨rfl, rfl⟩ := y
      have l := pm.length_eq
      rw [List.length_append] at l
      refine ⟨_, rfl, ty_lst ho, _, rfl, ty_lst hb, _, rfl, _, rfl, b, ls, rfl, .inl (SqL.of hb), p, ls.length, rfl, s2 _ _ hp, by omega, Int.lt_of_le_of_lt (b := 64) (by omega) (by decide), fun d' H4 e0 e1 s3 => ?_⟩
      have hk : d'.toNat < ls.length := by omega
      refine ⟨b, ls, d', d'.toNat, ls[d'.toNat], rfl, rfl, s3 _ _ hb, by omega, by omega, sIx_of e0 e1, List.getElem?_eq_getElem hk, ?_⟩
      have ho3 : upd H4 b (.lst (ls.eraseIdx d'.toNat)) o = some (.lst fs) := by rw [upd_ne ob]; exact s3 _ _ ho
      refine ⟨o, fs, _, rfl, rfl, ho3, Nat.lt_of_le_of_lt (m := 64) (by omega) (by decide), ?_⟩
      refine ⟨_, ls.eraseIdx d'.toNat, fs ++ [ls[d'.toNat]], rfl, Same.mut (Same.mut (s2.trans s3) nb) no', by rw [upd_ne (Ne.symm ob)]; exact upd_same, upd_same, ?_, by rw [List.length_append, lf]; rfl⟩
      have e1 := erase_perm hk
      have e2 : (ls.eraseIdx d'.toNat ++ (fs ++ [ls[d'.toNat]])).Perm ((ls[d'.toNat] :: ls.eraseIdx d'.toNat) ++ fs) := by
        rw [← List.append_assoc]
        exact List.perm_append_comm
      exact e2.trans ((e1.append (List.Perm.refl fs)).trans pm)
    · obtain ⟨a4, ls, fs, rfl, s2, hb, ho, pm, lf⟩ := hP
      have l := pm.length_eq
      rw [List.length_append] at l
      obtain ⟨el5, pm5⟩ := (el.same s2).perm pm
      have elf : EL H2 fs (fs.map (entOf H2)) := .of_map fun x hx => (el.same s2).ents x (pm.mem_iff.mp (List.mem_append_right _ hx))
      rw [List.map_append] at pm5
      have nd := (List.nodup_append.mp (pm5.nodup_iff.mpr du.ok.nd)).2.1
      have lm : (fs.map (entOf H2)).length = (2 + d).toNat := by rw [List.length_map, lf]
      refine ⟨_, rfl, o, fs, _, rfl, ho, elf, by omega, by omega, fun r zs gs H8 s8 nr hr elg nrm => ?_⟩
      obtain ⟨q, lq⟩ := nrm_lies nrm
      have inn : ∀ e ∈ fs.map (entOf H2), e ∈ es := fun e he => pm5.mem_iff.mp (List.mem_append_right _ he)
      refine k r zs gs H8 q (s2.trans s8) (s2.free nr) hr elg (due_of nrm nd (by omega) (by omega) fun e he => ?_) fun g hg => inn _ (lq g hg)
      have b := du.bd e (inn e he)
      exact ⟨b.1, b.2.1, b.2.2.1, b.2.2.2, du.wd e (inn e he)⟩
theorem el_pd {H : Hp} {zs : List V} {nf : List Ent} (h : Paired (EntT H) zs nf) : EL H zs nf := by
  induction h with
  | nil => exact .nil
  | cons h _ ih => exact .cons h ih
theorem cut1 {zs : List V} : cutV zs none (some 1) = zs.take 1 := by
  cases zs with
  | nil => rfl
  | cons z t => exact cut_to (i := 1) (by simp)
/-! more -/
def spMore (K : PySem.W.Frag) : Sp := fun vs H Q _ => ∃ p a t xs es ns, vs = [.ref p, .ref a, .ref t] ∧ H p = some (PotO p) ∧ H a = some (.lst xs) ∧ EL H xs es ∧ Due es ∧ H t = some (.lst (ns.map V.str)) ∧ NsOk ns ∧ 1 ≤ ns.length ∧ ns.length ≤ 10 ∧
  ∀ l zs gs H', L2.Same H H' → H' l = some (.lst zs) → EL H' zs gs → Due gs → Q (.ref l) H'
theorem d_more (T : Txt K mg) : Df P w K mg base 3 "_law_more" ["_law_pot_here", "_law_some", "_law_tags"] (spMore K) := by
  have D_l_among := d_among (P := P) (w := w) (base := base) T
  have D_l_normed := d_lnormed (P := P) (w := w) (base := base) T
  refine T.S_l_more.by sc_l_more (fun vs H Q E h => ?_) (fun f cdv A outer s H vs Q E hr hgd h => ?_)
  · obtain ⟨p, a, t, xs, es, ns, rfl, _⟩ := h; rfl
  · obtain ⟨p, a, t, xs, es, ns, rfl, hp, ha, el, du, ht, ok, n0, n1, k⟩ := h
    refine ⟨_, (pss_cons (ps_set (i := 3) sc_l_more.nd rfl (by first | exact Or.inl rfl | exact Or.inr rfl) (pe_own D_l_among (hr.mono (by first | decide | omega)) hgd (pa_cons (pv 0) (pa_cons (pv 1) pa_nil))))
      (pss_cons (ps_set (i := 4) sc_l_more.nd rfl (by first | exact Or.inl rfl | exact Or.inr rfl) (pe_lst (pa_cons (pe_tup (pa_cons (pe_op op_add (pe_ix  (ix_tupK (C := K) rfl) (pv 3) pe_int (fun _ _ => rfl)) pe_int) (pa_cons (pe_ix  (ix_tupK (C := K) rfl) (pv 3) pe_int (fun _ _ => rfl)) (pa_cons (pe_ix  (ix_tupK (C := K) rfl) (pv 3) pe_int (fun _ _ => rfl)) pa_nil)))) (pa_cons (pe_tup (pa_cons (pe_ix  (ix_tupK (C := K) rfl) (pv 3) pe_int (fun _ _ => rfl)) (pa_cons (pe_op op_add (pe_ix  (ix_tupK (C := K) rfl) (pv 3) pe_int (fun _ _ => rfl)) pe_int) (pa_cons (pe_ix  (ix_tupK (C := K) rfl) (pv 3) pe_int (fun _ _ => rfl)) pa_nil)))) pa_nil))))
      (pss_cons (ps_expr (pe_bm PySem.F.plainAttrs_list PySem.F.slot_list_append PySem.F.type_list_append mt_append (pv 4) (pa_cons (pe_tup (pa_cons (pe_ix  (ix_tupK (C := K) rfl) (pv 3) pe_int (fun _ _ => rfl)) (pa_cons (pe_ix  (ix_tupK (C := K) rfl) (pv 3) pe_int (fun _ _ => rfl)) (pa_cons (pe_own D_l_among (hr.mono (by first | decide | omega)) hgd (pa_cons (pv 0) (pa_cons (pv 2) pa_nil))) pa_nil)))) pa_nil)))
      (pss_cons (ps_setLc (i := 5) (own := [("_law_one", 6)]) rfl sc_l_more.nd rfl rfl (sw_true rfl rfl rfl (by decide +kernel)) (pi_list (pv 4)) (blkOk_by (own := [("_law_one", 6)]) (N := ["_law_pot_here", "_law_some", "_law_tags", "_law_part_here", "_law_near", "_law_fresh", "_law_one"]) (sc := defScope s_l_more) (by decide +kernel)) (fun _ _ _ _ _ => (pg_name (i := 6) sc_l_more.nd rfl (by first | exact Or.inl rfl | exact Or.inr rfl))) (fun _ _ _ _ _ => pts_one (PW.pt (pw_and (pt_cmpR (op_notInDK (C := K) rfl (un65 hr)) (pv 6) (pv 1) (by rfl)) (pw_and (pt_cmpR op_le (pe_ix  (ix_tupK (C := K) rfl) (pv 6) pe_int (fun _ _ => rfl)) pe_int (nomark _)) (pw_and1 (pt_cmpR op_le (pe_ix  (ix_tupK (C := K) rfl) (pv 6) pe_int (fun _ _ => rfl)) pe_int (nomark _))))))) (fun _ _ _ _ _ => (pv 6)))
      (pss_one (ps_ret (pe_ifExp (pt_cmpR op_lt (pe_callB call_len_seq (by rfl) T.n_len PySem.boot_len (pa_cons (pv 1) pa_nil)) pe_int (nomark _)) (pe_own D_l_normed (hr.mono (by first | decide | omega)) hgd (pa_cons (pe_op op_cat (pv 1) (pe_slice sl_list (pv 5) po_none (po_some pe_int))) pa_nil)) (pv 1)))))))), ?_⟩
    have ln := el.len
    have l0 := du.ok.l0
    have l1 := du.ok.l1
    refine ⟨_, rfl, _, rfl, p, a, xs, rfl, hp, SqL.of ha, by omega, by omega, fun y H1 hy s1 => ?_⟩
    obtain ⟨e, he, u, rfl, hu⟩ := el.mem hy
    have hu1 := s1 _ _ hu
    have bd := du.bd e he
    have wd := du.wd e he
    walk_at "rd"
    intro t1 n1'
    have hu2 := Same.new (o := .tup [V.int (e.1 + 1), V.int e.2.1, V.str e.2.2]) n1' _ _ hu1
    walk_at "rd"
    intro t2 n2'
    refine ⟨by show (2 : Nat) ≤ sizeLine; decide +kernel, fun l nl => ?_⟩
    dsimp only
    have s3 : L2.Same H1 (upd (upd (upd H1 t1 (.tup [V.int (e.1 + 1), V.int e.2.1, V.str e.2.2])) t2 (.tup [V.int e.1, V.int (e.2.1 + 1), V.str e.2.2])) l (.lst [V.ref t1, V.ref t2])) := ((Same.new n1').trans (Same.new n2')).trans (Same.new nl)
    have el3 : EL (upd (upd (upd H1 t1 (.tup [V.int (e.1 + 1), V.int e.2.1, V.str e.2.2])) t2 (.tup [V.int e.1, V.int (e.2.1 + 1), V.str e.2.2])) l (.lst [V.ref t1, V.ref t2])) [V.ref t1, V.ref t2] [(e.1 + 1, e.2.1, e.2.2), (e.1, e.2.1 + 1, e.2.2)] :=
      .cons ⟨t1, rfl, (Same.new n2').trans (Same.new nl) _ _ upd_same⟩ (.cons ⟨t2, rfl, Same.new nl _ _ upd_same⟩ .nil)
    have hl3 : (upd (upd (upd H1 t1 (.tup [V.int (e.1 + 1), V.int e.2.1, V.str e.2.2])) t2 (.tup [V.int e.1, V.int (e.2.1 + 1), V.str e.2.2])) l (.lst [V.ref t1, V.ref t2])) l = some (.lst [V.ref t1, V.ref t2]) := upd_same
    have nlH : H l = none := (s1.trans ((Same.new n1').trans (Same.new n2'))).free nl
    generalize upd (upd (upd H1 t1 (.tup [V.int (e.1 + 1), V.int e.2.1, V.str e.2.2])) t2 (.tup [V.int e.1, V.int (e.2.1 + 1), V.str e.2.2])) l (.lst [V.ref t1, V.ref t2]) = H3 at s3 el3 hl3
    have s13 := s1.trans s3
    have hu3 := s3 _ _ hu1
    refine ⟨_, rfl, ty_lst hl3, _, rfl, u, _, _, _, rfl, rfl, SqT.of hu3, rfl, _, rfl, u, _, _, _, rfl, rfl, SqT.of hu3, rfl, _, rfl, _, rfl, p, t, _, rfl, s13 _ _ hp, SqL.of (s13 _ _ ht), by rw [List.length_map]; omega, by rw [List.length_map]; omega, fun y H4 hy s4 => ?_⟩
    obtain ⟨z, hz, rfl⟩ := List.mem_map.mp hy
    refine ⟨by show (3 : Nat) ≤ sizeLine; decide +kernel, fun t3 n3 => ?_⟩
    have hl4 := Same.new (o := .tup [V.int e.1, V.int e.2.1, V.str z]) n3 _ _ (s4 _ _ hl3)
    have el4 : EL (upd H4 t3 (.tup [V.int e.1, V.int e.2.1, V.str z])) ([V.ref t1, V.ref t2] ++ [V.ref t3]) ([(e.1 + 1, e.2.1, e.2.2), (e.1, e.2.1 + 1, e.2.2)] ++ [(e.1, e.2.1, z)]) := ((el3.same s4).same (Same.new n3)).app (.cons ⟨t3, rfl, upd_same⟩ .nil)
    refine ⟨l, _, _, rfl, rfl, hl4, by show (2 : Nat) < sizeLine; decide +kernel, ?_⟩
    dsimp only
    have el5 := el4.mut (ys := [V.ref t1, V.ref t2] ++ [V.ref t3]) hl4
    have hl5 : (upd (upd H4 t3 (.tup [V.int e.1, V.int e.2.1, V.str z])) l (.lst ([V.ref t1, V.ref t2] ++ [V.ref t3]))) l = some (.lst ([V.ref t1, V.ref t2] ++ [V.ref t3])) := upd_same
    have s5 : L2.Same H (upd (upd H4 t3 (.tup [V.int e.1, V.int e.2.1, V.str z])) l (.lst ([V.ref t1, V.ref t2] ++ [V.ref t3]))) := Same.mut ((s13.trans s4).trans (Same.new n3)) nlH
    generalize upd (upd H4 t3 (.tup [V.int e.1, V.int e.2.1, V.str z])) l (.lst ([V.ref t1, V.ref t2] ++ [V.ref t3])) = H5 at el5 hl5 s5
    obtain ⟨nr, enr⟩ : ∃ nr, [(e.1 + 1, e.2.1, e.2.2), (e.1, e.2.1 + 1, e.2.2)] ++ [(e.1, e.2.1, z)] = nr := ⟨_, rfl⟩
    rw [enr] at el5
    have dz : ∀ g ∈ nr, Wd g.2.2 ∧ 0 ≤ g.1 ∧ 0 ≤ g.2.1 ∧ g.1 ≤ 4 ∧ g.2.1 ≤ 4 := by
      rw [← enr]
      intro g hg
      simp only [List.cons_append, List.nil_append, List.mem_cons, List.not_mem_nil, or_false] at hg
      rcases hg with rfl | rfl | rfl
      · exact ⟨wd, by show 0 ≤ e.1 + 1; omega, by show 0 ≤ e.2.1; omega, by show e.1 + 1 ≤ 4; omega, by show e.2.1 ≤ 4; omega⟩
      · exact ⟨wd, by show 0 ≤ e.1; omega, by show 0 ≤ e.2.1 + 1; omega, by show e.1 ≤ 4; omega, by show e.2.1 + 1 ≤ 4; omega⟩
      · exact ⟨ok.ok z hz, by show 0 ≤ e.1; omega, by show 0 ≤ e.2.1; omega, by show e.1 ≤ 4; omega, by show e.2.1 ≤ 4; omega⟩
    generalize [V.ref t1, V.ref t2] ++ [V.ref t3] = nx at el5 hl5
    have lnr : nr.length = 3 := by rw [← enr]; rfl
    have ln5 := el5.len
    refine ⟨_, rfl, l, rfl, ⟨_, SqL.of hl5⟩, fun D nD => ?_⟩
    refine lc_fil (walk_list (xs := nx)) nD (by omega) (fun _ sm => SqL.of (sm _ _ hl5)) (fun i => nr[i]?.bind fun g => if g ∈ es then none else if g.1 ≤ 3 ∧ g.2.1 ≤ 3 then some g else none) EntT (fun H H' v c s h => h.same s) (fun H xs ys v c hD h => h.mut hD) (fun i x H6 H7 Kn Z hi sm _ y q n => ?_) (fun H6 zs sm hD hp' => ?_)
    · obtain ⟨rfl, hx⟩ := y
      obtain ⟨g, hg, t, rfl, ht⟩ := el5.at hx
      have ht' := sm _ _ ht
      rw [hg, Option.bind_some] at q n
      have s6 := s5.trans sm
      have gok := (dz g (List.mem_of_getElem? hg)).1
      refine ⟨rfl, _, rfl, _, rfl, eD g, es.map eD, EntT.dp ⟨t, rfl, ht'⟩, .lst (SqL.of (s6 _ _ ha)) (el.same s6).dp, eD_sh gok.ok, eDs_shL du.nm, ?_⟩
      rw [any_eD]
      by_cases c : g ∈ es
      · rw [decide_eq_true c]
        exact ⟨_, rfl, iteF (iteF (n (by rw [if_pos c]) _ (Same.refl _)))⟩
      · rw [decide_eq_false c]
        rw [if_neg c] at q n
        refine ⟨_, rfl, iteT ?_⟩
        walk_at "rd"
        by_cases c1 : g.1 ≤ 3
        · rw [decide_eq_true c1]
          refine iteT ?_
          walk_at "rd"
          by_cases c2 : g.2.1 ≤ 3
          · rw [decide_eq_true c2]
            refine iteT ⟨_, rfl, ?_⟩
            exact q _ g _ (by rw [if_pos ⟨c1, c2⟩]) (Same.refl _) ⟨t, rfl, ht'⟩
          · rw [decide_eq_false c2]
            exact iteF (n (by rw [if_neg fun z => c2 z.2]) _ (Same.refl _))
        · rw [decide_eq_false c1]
          exact iteF (iteF (n (by rw [if_neg fun z => c1 z.1]) _ (Same.refl _)))
    · rw [show nx.length = nr.length from ln5, range_fil] at hp'
      have s6 := s5.trans sm
      obtain ⟨nf, enf⟩ : ∃ nf, nr.filterMap (fun g => if g ∈ es then none else if g.1 ≤ 3 ∧ g.2.1 ≤ 3 then some g else none) = nf := ⟨_, rfl⟩
      rw [enf] at hp'
      have elf : EL H6 zs nf := el_pd hp'
      have nok : ∀ g ∈ nf, g ∉ es ∧ Wd g.2.2 ∧ 0 ≤ g.1 ∧ g.1 ≤ 3 ∧ 0 ≤ g.2.1 ∧ g.2.1 ≤ 3 := by
        rw [← enf]
        intro g hg
        obtain ⟨g', hg', e'⟩ := List.mem_filterMap.mp hg
        by_cases c : g' ∈ es
        · rw [if_pos c] at e'; cases e'
        · rw [if_neg c] at e'
          by_cases c2 : g'.1 ≤ 3 ∧ g'.2.1 ≤ 3
          · rw [if_pos c2] at e'
            cases e'
            have z := dz g hg'
            exact ⟨c, z.1, z.2.1, c2.1, z.2.2.1, c2.2⟩
          · rw [if_neg c2] at e'; cases e'
      have lz := elf.len
      refine ⟨_, rfl, a, xs, rfl, .inl (SqL.of (s6 _ _ ha)), _, _, rfl, rfl, _, rfl, ?_⟩
      refine ite2 (fun c => ?_) (fun c => ?_)
      · have c1 := of_decide_eq_true c
        refine ⟨_, rfl, _, rfl, 1, rfl, D, zs, rfl, SqL.of hD, fun p2 np2 => ?_⟩
        rw [cut1]
        have s7 := s6.trans (Same.new (o := .lst (zs.take 1)) np2)
        refine ⟨a, p2, xs, zs.take 1, rfl, rfl, s7 _ _ ha, upd_same, Nat.le_trans (m := 64) (by rw [List.length_take]; omega) (by decide), fun p3 np3 => ?_⟩
        have s8 := s7.trans (Same.new (o := .lst (xs ++ zs.take 1)) np3)
        have el8 : EL (upd (upd H6 p2 (.lst (zs.take 1))) p3 (.lst (xs ++ zs.take 1))) (xs ++ zs.take 1) (es ++ nf.take 1) := (el.same s8).app (((elf.take 1).same (Same.new np2)).same (Same.new np3))
        have nd8 : (es ++ nf.take 1).Nodup := by
          refine List.nodup_append.mpr ⟨du.ok.nd, ?_, fun x hx y hy e => (nok y (List.mem_of_mem_take hy)).1 (by rw [← e]; exact hx)⟩
          cases nf with
          | nil => exact List.nodup_nil
          | cons g t => exact List.nodup_cons.mpr ⟨by simp, List.nodup_nil⟩
        have l8 : (es ++ nf.take 1).length ≤ 6 := by rw [List.length_append, List.length_take]; omega
        refine ⟨p3, _, _, rfl, upd_same, el8, by rw [List.length_append]; omega, by omega, fun r ws gs H9 s9 nr hr elg nrm => ?_⟩
        refine k r ws gs H9 (s8.trans s9) hr elg (due_of nrm nd8 (by rw [List.length_append]; omega) l8 fun g hg => ?_)
        rcases List.mem_append.mp hg with hg | hg
        · have b := du.bd g hg
          exact ⟨b.1, b.2.1, b.2.2.1, b.2.2.2, du.wd g hg⟩
        · have b := nok g (List.mem_of_mem_take hg)
          exact ⟨b.2.2.1, b.2.2.2.1, b.2.2.2.2.1, b.2.2.2.2.2, b.2.1⟩
      · exact ⟨_, rfl, k a xs es _ s6 (s6 _ _ ha) (el.same s6) du⟩
/-! shifts -/
def spLSh (K : PySem.W.Frag) : Sp := fun vs H Q _ => ∃ a b xs ys es fs, vs = [.ref a, .ref b] ∧ H a = some (.lst xs) ∧ EL H xs es ∧ Due es ∧ H b = some (.lst ys) ∧ EL H ys fs ∧ Due fs ∧
  ∀ l zs H', L2.Same H H' → H l = none → H' l = some (.lst zs) → PL H' zs (shfs es fs) → Q (.ref l) H'
theorem cell_at (i j : Nat) (h : j < 4) : cell (4 * i + j) = ((i : Int), (j : Int)) := by
  unfold cell
  have e1 : (4 * i + j) / 4 = i := by omega
  have e2 : (4 * i + j) % 4 = j := by omega
  rw [e1, e2]
theorem d_lshifts (T : Txt K mg) : Df P w K mg base 1 "_law_shifts" ["_law_some", "_law_others"] (spLSh K) := by
  refine T.S_l_shifts.by sc_l_shifts (fun vs H Q E h => ?_) (fun f cdv A outer s H vs Q E hr hgd h => ?_)
  · obtain ⟨a, b, xs, ys, es, fs, rfl, _⟩ := h; rfl
  · obtain ⟨a, b, xs, ys, es, fs, rfl, ha, el, du, hb, elf, duf, k⟩ := h
    refine ⟨_, (pss_cons (ps_set (i := 2) sc_l_shifts.nd rfl (by first | exact Or.inl rfl | exact Or.inr rfl) (pe_lst pa_nil))
      (pss_cons (ps_for PassesOwn.never rfl (pi_range1 (by rfl) T.n_range (pa_cons pe_int pa_nil)) (pg_name (i := 3) sc_l_shifts.nd rfl (by first | exact Or.inl rfl | exact Or.inr rfl)) (pss_one (ps_for PassesOwn.never rfl (pi_range1 (by rfl) T.n_range (pa_cons pe_int pa_nil)) (pg_name (i := 4) sc_l_shifts.nd rfl (by first | exact Or.inl rfl | exact Or.inr rfl)) (pss_one (ps_if (pt_val (pe_callB (cr_all rfl) (by rfl) T.n_all (by decide +kernel) (pa_cons (pe_lc (own := [("_law_part_here", 5)]) rfl sc_l_shifts.nd (pi_list (pv 0)) (blkOk_by (own := [("_law_part_here", 5)]) (N := ["_law_some", "_law_others", "_law_found", "_law_across", "_law_up", "_law_part_here"]) (sc := defScope s_l_shifts) (by decide +kernel)) (fun _ _ _ _ _ => (pg_name (i := 5) sc_l_shifts.nd rfl (by first | exact Or.inl rfl | exact Or.inr rfl))) (fun _ _ _ _ _ => pts_nil) (fun _ _ _ _ _ => (pe_cmpR (op_inDK (C := K) rfl (un65 hr)) (pe_tup (pa_cons (pe_op op_add (pe_ix  (ix_tupK (C := K) rfl) (pv 5) pe_int (fun _ _ => rfl)) (pv 3)) (pa_cons (pe_op op_add (pe_ix  (ix_tupK (C := K) rfl) (pv 5) pe_int (fun _ _ => rfl)) (pv 4)) (pa_cons (pe_ix  (ix_tupK (C := K) rfl) (pv 5) pe_int (fun _ _ => rfl)) pa_nil)))) (pv 1) (by rfl)))) pa_nil))) (pss_one (ps_expr (pe_bm PySem.F.plainAttrs_list PySem.F.slot_list_append PySem.F.type_list_append mt_append (pv 2) (pa_cons (pe_tup (pa_cons (pv 3) (pa_cons (pv 4) pa_nil))) pa_nil)))) pss_nil)))))
      (pss_one (ps_ret (pv 2))))), ?_⟩
    have ln := el.len
    have l1 := du.ok.l1
    have lf := duf.ok.l1
    rw [shfs_law du duf] at k
    walk_at "rd"
    intro o no
    refine ⟨_, rfl, by decide, by decide, ?_⟩
    refine for_it walk_range (fun i σ H' => ∃ (s3 s4 s5 : Option V) (ls : List V), σ = [some (.ref a), some (.ref b), some (.ref o), s3, s4, s5] ∧ L2.Same H H' ∧ H' o = some (.lst ls) ∧ PL H' ls (lawS es fs (4 * i)))
      ⟨_, _, _, [], rfl, Same.new no, upd_same, .nil⟩ (fun _ _ _ _ _ => trivial) (fun i x σ H2 H3 hi hP y => ?_) (fun σ H2 hP => ?_)
    · obtain ⟨s3, s4, s5, ls, rfl, s2, ho, pl⟩ := hP
      obtain ⟨rfl, rfl⟩ := y
      refine ⟨_, rfl, by decide, by decide, ?_⟩
      refine for_it walk_range (fun j σ H' => ∃ (s4 s5 : Option V) (ls : List V), σ = [some (.ref a), some (.ref b), some (.ref o), some (.int (0 + (i : Int))), s4, s5] ∧ L2.Same H H' ∧ H' o = some (.lst ls) ∧ PL H' ls (lawS es fs (4 * i + j)))
        ⟨_, _, ls, rfl, s2, ho, pl⟩ (fun _ _ _ _ _ => trivial) (fun j x σ H4 H5 hj hP y => ?_) (fun σ H4 hP => ?_)
      · obtain ⟨s4, s5, ls, rfl, s2, ho, pl⟩ := hP
        obtain ⟨rfl, rfl⟩ := y
        have hj4 : j < 4 := hj
        refine ⟨_, rfl, a, rfl, ⟨_, SqL.of (s2 _ _ ha)⟩, fun D nD => ?_⟩
        refine lc_pure (walk_list (xs := xs)) nD (by omega) (fun _ sm => SqL.of (sm _ _ (s2 _ _ ha))) (fun n y => ∃ e, es[n]? = some e ∧ y = .bl (decide (sh (i : Int) (j : Int) e ∈ fs))) (fun n x H6 H7 Kn Z hi sm y q => ?_) (fun H6 us sm hD hl hr' => ?_)
        · obtain ⟨rfl, hx⟩ := y
          obtain ⟨e, he, t, rfl, ht⟩ := el.at hx
          have s6 := s2.trans sm
          have ht' := s6 _ _ ht
          walk_at "rd"
          intro t2 n2
          have et : EntT (upd H7 t2 (.tup [V.int (e.1 + (0 + (i : Int))), V.int (e.2.1 + (0 + (j : Int))), V.str e.2.2])) (.ref t2) (sh (i : Int) (j : Int) e) := ⟨t2, rfl, by rw [Int.zero_add, Int.zero_add]; exact upd_same⟩
          have s7 := Same.new (o := .tup [V.int (e.1 + (0 + (i : Int))), V.int (e.2.1 + (0 + (j : Int))), V.str e.2.2]) n2
          refine ⟨_, rfl, eD (sh (i : Int) (j : Int) e), fs.map eD, et.dp, .lst (SqL.of (s7 _ _ (s6 _ _ hb))) (elf.same (s6.trans s7)).dp, eD_sh (du.wd e (List.mem_of_getElem? he)).ok, eDs_shL duf.nm, ?_⟩
          rw [any_eD]
          exact q _ _ s7 ⟨e, he, rfl⟩
        · obtain rfl := vs_of (f := fun e => V.bl (decide (sh (i : Int) (j : Int) e ∈ fs))) (hl.trans ln) hr'
          refine ⟨D, es.map fun e => decide (sh (i : Int) (j : Int) e ∈ fs), rfl, SqL.of (by rw [List.map_map]; exact hD), ?_⟩
          have ea : (es.map fun e => decide (sh (i : Int) (j : Int) e ∈ fs)).all id = among (es.map (sh (cell (4 * i + j)).1 (cell (4 * i + j)).2)) fs := by
            rw [cell_at i j hj4]
            unfold among
            rw [List.map_map]
            rfl
          rw [ea]
          have s6 := s2.trans sm
          have ho6 := sm _ _ ho
          have pl6 := pl_same pl sm
          refine ⟨_, rfl, ite2 (fun c => ?_) (fun c => ?_)⟩
          · refine ⟨_, rfl, ty_lst ho6, _, rfl, _, rfl, by show (2 : Nat) ≤ sizeLine; decide +kernel, fun t nt => ?_⟩
            have s7 := Same.new (o := .tup [V.int (0 + (i : Int)), V.int (0 + (j : Int))]) nt
            have ho7 := s7 _ _ ho6
            have ll := pl.length
            have l16 : (lawS es fs (4 * i + j)).length ≤ 4 * i + j := by
              have z := List.length_filterMap_le (fun k => if among (es.map (sh (cell k).1 (cell k).2)) fs = true then some (cell k) else none) (List.range (4 * i + j))
              rwa [List.length_range] at z
            have hi4 : i < 4 := hi
            refine ⟨o, ls, _, rfl, rfl, ho7, Nat.lt_of_le_of_lt (m := 16) (by omega) (by decide), ?_⟩
            refine ⟨_, _, ls ++ [.ref t], rfl, Same.mut (s6.trans s7) no, upd_same, ?_⟩
            rw [show 4 * i + (j + 1) = (4 * i + j) + 1 from rfl, lawS_succ, if_pos c]
            refine pd_app (pl_mut ho7 (pl_same pl6 s7)) (.cons (PrT.mut ho7 ⟨t, rfl, ?_⟩) .nil)
            rw [cell_at i j hj4, upd_same]
            show some (HO.tup [V.int (0 + (i : Int)), V.int (0 + (j : Int))]) = some (HO.tup [V.int (i : Int), V.int (j : Int)])
            rw [Int.zero_add, Int.zero_add]
          · refine ⟨_, _, ls, rfl, s6, ho6, ?_⟩
            rw [show 4 * i + (j + 1) = (4 * i + j) + 1 from rfl, lawS_succ, if_neg c, List.append_nil]
            exact pl6
      · obtain ⟨s4, s5, ls, rfl, s2, ho, pl⟩ := hP
        exact ⟨_, _, _, ls, rfl, s2, ho, pl⟩
    · obtain ⟨s3, s4, s5, ls, rfl, s2, ho, pl⟩ := hP
      exact ⟨_, rfl, k o ls H2 s2 no ho pl⟩
end
end K12

set_option Elab.async false
set_option linter.all false
set_option maxRecDepth 100000
set_option maxHeartbeats 4000000
namespace K12
open PySem L2 Lay Own SrtO
local macro_rules | `(tactic| walk_at "ne") => `(tactic| first | assumption | (apply Ne.symm; assumption) | exact ne_of_none (by walk_at "look") (by assumption) | exact (ne_of_none (by walk_at "look") (by assumption)).symm)
local macro_rules | `(tactic| walk_at "look") => `(tactic| first | assumption | exact upd_same | (refine Eq.trans (upd_ne ?_) ?_; walk_at "ne"; walk_at "look"))
local macro_rules | `(tactic| walk_at "rds") => `(tactic| first | rfl | assumption | walk_at "look" | exact SqL.of (by walk_at "look") | exact SqT.of (by walk_at "look") | exact Or.inl (SqL.of (by walk_at "look")) | exact Or.inl (by assumption) | decide | omega | exact Nat.le_of_ble_eq_true rfl | exact Or.inr ⟨by decide, by decide⟩ | exact Or.inl ⟨by omega, by omega⟩ | exact ⟨by decide, by decide⟩)
local macro_rules | `(tactic| walk_at "rd1") => `(tactic| first | (apply Exists.intro) | (refine And.intro ?_ ?_; walk_at "rds") | (refine Or.inl ?_; apply Exists.intro; refine And.intro ?_ ?_; rfl))
local macro_rules | `(tactic| walk_at "rd") => `(tactic| repeat walk_at "rd1")
section
variable {P : Program} {w : World} {K : PySem.W.Frag} {mg : Str → Option Value} {base : Heap}
theorem nf_own : PySem.W.notFirst K (kc K) (.ref (kc K)) = true := by simp [PySem.W.notFirst]
theorem KindAt.same {H H' : Hp} {a : Addr} {fs : List Ent} {m1 m2 : Int} (h : KindAt K H a fs m1 m2) (s : L2.Same H H') : KindAt K H' a fs m1 m2 := by
  obtain ⟨dx, tt, r, zs, h1, h2, h3, h4, h5⟩ := h
  exact ⟨dx, tt, r, zs, s _ _ h1, s _ _ h2, s _ _ h3, h4.same s, s _ _ h5⟩
theorem mv_zero (es : List Ent) : es.map (mv 0 0) = es := by
  have e : mv 0 0 = id := by
    funext x
    obtain ⟨a, b, c⟩ := x
    simp [mv]
  rw [e, List.map_id]
theorem min_one {a b : Int} {ns : List Int} (h : IsMin a ns) (g : IsMin b ns) : a = b := Int.le_antisymm (h.2 _ g.1) (g.2 _ h.1)
/-- what stands in order already stays -/
theorem kn_due {es fs : List Ent} {m1 m2 : Int} (d : Due es) (k : Kn es fs m1 m2) : fs = es ∧ m1 ≤ 3 ∧ m2 ≤ 3 := by
  obtain ⟨⟨lo, bo, hl, hb, pm, sd⟩, x, y⟩ := k
  obtain rfl := min_one hl d.x0
  obtain rfl := min_one hb d.y0
  rw [mv_zero] at pm
  obtain rfl := sd_uniq tot_ent pm sd d.sd
  refine ⟨rfl, ?_, ?_⟩
  · obtain ⟨e, he, q⟩ := List.mem_map.mp x.1
    rw [← q]; exact (d.le e he).1
  · obtain ⟨e, he, q⟩ := List.mem_map.mp y.1
    rw [← q]; exact (d.le e he).2
/-! texts, data of lists of shifts -/
def pTx (p : Int × Int) : Str := tupleText [toString p.1, toString p.2]
def psTx (ps : List (Int × Int)) : Str := listText (ps.map pTx)
def Near (ps : List (Int × Int)) : Prop := ∀ p ∈ ps, 0 ≤ p.1 ∧ p.1 ≤ 3 ∧ 0 ≤ p.2 ∧ p.2 ≤ 3
theorem near_shfs {es fs : List Ent} (d1 : Due es) (d2 : Due fs) : Near (shfs es fs) := fun p hp => by
  have l0 := d1.ok.l0
  obtain ⟨k, hk, rfl⟩ := lies_near d1 d2 ((mem_shfs (by omega)).mp hp)
  unfold cell
  have a : k / 4 ≤ 3 := by omega
  have b : k % 4 ≤ 3 := by omega
  refine ⟨?_, ?_, ?_, ?_⟩ <;> dsimp only <;> omega
theorem len_shfs {es fs : List Ent} : (shfs es fs).length ≤ fs.length := by
  cases es with
  | nil => exact Nat.zero_le _
  | cons e es =>
    refine Nat.le_trans (List.length_filterMap_le _ _) ?_
    exact List.length_filterMap_le _ _
theorem pTx_len {p : Int × Int} (h : 0 ≤ p.1 ∧ p.1 ≤ 3 ∧ 0 ≤ p.2 ∧ p.2 ≤ 3) : (pTx p).length ≤ 15 := by
  have h' := PySem.tupleText_len_le [((toString p.1 : String) : Str), ((toString p.2 : String) : Str)]
  have i1 := int_len (i := p.1) (by omega) (by omega)
  have i2 := int_len (i := p.2) (by omega) (by omega)
  have h2 : (pTx p).length ≤ ([(Str.length ((toString p.1 : String) : Str)), (Str.length ((toString p.2 : String) : Str))]).sum + 2 * 2 + 3 := h'
  simp only [List.sum_cons, List.sum_nil] at h2
  omega
theorem psTx_len {ps : List (Int × Int)} (n : Near ps) (l : ps.length ≤ 6) : (psTx ps).length ≤ 200 := by
  have h := PySem.listText_len_le (ps.map pTx)
  rw [List.map_map, List.length_map] at h
  have b : ∀ qs : List (Int × Int), Near qs → (qs.map ((·.length) ∘ pTx)).sum ≤ 15 * qs.length := by
    intro qs
    induction qs with
    | nil => intro _; simp
    | cons f fs ih =>
      intro hf
      have h1 := pTx_len (hf f (List.mem_cons_self ..))
      have h2 := ih fun e he => hf e (List.mem_cons_of_mem _ he)
      simp only [List.map_cons, List.sum_cons, List.length_cons, Function.comp_apply] at *
      omega
  have := b ps n
  unfold psTx
  omega
theorem PrT.sw {H : Hp} {x : V} {p : Int × Int} (h : PrT H x p) (n : 0 ≤ p.1 ∧ p.1 ≤ 3 ∧ 0 ≤ p.2 ∧ p.2 ≤ 3) : ∃ t, x = .ref t ∧ H t = some (.tup [.int p.1, .int p.2]) ∧ Rp.Sw K H [t] x (pTx p) := by
  obtain ⟨t, rfl, ht⟩ := h
  have lg : ∀ i : Int, 0 ≤ i → i ≤ 3 → i.natAbs.log2 < 1920 := fun i h1 h2 => by
    have h : i.natAbs < 2 ^ 10 := by show i.natAbs < 1024; omega
    rcases Nat.eq_zero_or_pos i.natAbs with z | z
    · rw [z]; decide
    · exact Nat.lt_trans ((Nat.log2_lt (by omega)).mpr h) (by decide)
  exact ⟨t, rfl, ht, .tup ht (.cons (.int _ (lg _ n.1 n.2.1)) (.cons (.int _ (lg _ n.2.2.1 n.2.2.2)) .nil)) (by simp)⟩
theorem pl_swl {H : Hp} {xs : List V} {ps : List (Int × Int)} (h : PL H xs ps) : Near ps → ∃ as, Rp.SwL K H as xs (ps.map pTx) ∧ as.length = ps.length ∧ ∀ b ∈ as, ∃ u v, H b = some (.tup [u, v]) := by
  induction h with
  | nil => exact fun _ => ⟨[], .nil, rfl, by simp⟩
  | cons h _ ih =>
    intro n
    obtain ⟨as, h1, h2, h3⟩ := ih fun f hf => n f (List.mem_cons_of_mem _ hf)
    obtain ⟨t, rfl, ht, sw⟩ := PrT.sw (K := K) h (n _ (List.mem_cons_self ..))
    refine ⟨t :: as, .cons sw h1, by rw [List.length_cons, List.length_cons, h2], fun b hb => ?_⟩
    rcases List.mem_cons.mp hb with rfl | hb
    · exact ⟨_, _, ht⟩
    · exact h3 b hb
theorem pl_sw {H : Hp} {p : Addr} {zs : List V} {ps : List (Int × Int)} (hp : H p = some (.lst zs)) (h : PL H zs ps) (n : Near ps) : ∃ as, Rp.Sw K H as (.ref p) (psTx ps) ∧ as.length ≤ ps.length + 1 ∧ ∀ b ∈ as, b = p ∨ ∃ u v, H b = some (.tup [u, v]) := by
  cases h with
  | nil => exact ⟨[], .lst0 hp, by simp, fun b hb => by cases hb⟩
  | cons a t =>
    obtain ⟨as, h1, h2, h3⟩ := pl_swl (K := K) (.cons a t) n
    refine ⟨p :: as, .lst hp h1 (fun z => ?_), by rw [List.length_cons, h2]; exact Nat.le_refl _, fun b hb => ?_⟩
    · obtain ⟨u, v, z⟩ := h3 p z
      rw [hp] at z
      cases z
    · rcases List.mem_cons.mp hb with rfl | hb
      · exact .inl rfl
      · exact .inr (h3 b hb)
/-- the text of a list of four lists of shifts -/
theorem four_sw {H : Hp} {td p1 p2 p3 p4 : Addr} {z1 z2 z3 z4 : List V} {A B C D : List (Int × Int)} (h1 : H p1 = some (.lst z1)) (h2 : H p2 = some (.lst z2)) (h3 : H p3 = some (.lst z3)) (h4 : H p4 = some (.lst z4)) (l1 : PL H z1 A) (l2 : PL H z2 B) (l3 : PL H z3 C) (l4 : PL H z4 D)
    (n1 : Near A) (n2 : Near B) (n3 : Near C) (n4 : Near D) (m1 : A.length ≤ 6) (m2 : B.length ≤ 6) (m3 : C.length ≤ 6) (m4 : D.length ≤ 6) (ht : H td = some (.lst [.ref p1, .ref p2, .ref p3, .ref p4])) (t1 : td ≠ p1) (t2 : td ≠ p2) (t3 : td ≠ p3) (t4 : td ≠ p4) :
    ∃ as, Rp.SwL K H as [.ref p1, .ref p2, .ref p3, .ref p4] [psTx A, psTx B, psTx C, psTx D] ∧ td ∉ as ∧ as.length ≤ 30 ∧ (listText [psTx A, psTx B, psTx C, psTx D]).length ≤ sizeLine := by
  obtain ⟨a1, s1, e1, f1⟩ := pl_sw (K := K) h1 l1 n1
  obtain ⟨a2, s2, e2, f2⟩ := pl_sw (K := K) h2 l2 n2
  obtain ⟨a3, s3, e3, f3⟩ := pl_sw (K := K) h3 l3 n3
  obtain ⟨a4, s4, e4, f4⟩ := pl_sw (K := K) h4 l4 n4
  have off : ∀ {as : List Addr} {p : Addr}, td ≠ p → (∀ b ∈ as, b = p ∨ ∃ u v, H b = some (.tup [u, v])) → td ∉ as := fun n f z => by
    rcases f td z with e | ⟨u, v, e⟩
    · exact n e
    · rw [ht] at e; cases e
  refine ⟨a1 ++ (a2 ++ (a3 ++ (a4 ++ []))), .cons s1 (.cons s2 (.cons s3 (.cons s4 .nil))), ?_, ?_, ?_⟩
  · rw [List.append_nil]
    intro z
    rcases List.mem_append.mp z with z | z
    · exact off t1 f1 z
    rcases List.mem_append.mp z with z | z
    · exact off t2 f2 z
    rcases List.mem_append.mp z with z | z
    · exact off t3 f3 z
    · exact off t4 f4 z
  · simp only [List.length_append, List.length_nil]
    omega
  · have h := PySem.listText_len_le [psTx A, psTx B, psTx C, psTx D]
    have b1 := psTx_len n1 m1
    have b2 := psTx_len n2 m2
    have b3 := psTx_len n3 m3
    have b4 := psTx_len n4 m4
    simp only [List.map_cons, List.map_nil, List.sum_cons, List.sum_nil, List.length_cons, List.length_nil] at h
    exact Nat.le_trans h (Nat.le_trans (m := 2000) (by omega) (by decide))
def pD (p : Int × Int) : PyData := .tuple [.int p.1, .int p.2]
theorem PrT.dp {H : Hp} {x : V} {p : Int × Int} (h : PrT H x p) : Dp K H x (pD p) := by
  obtain ⟨t, rfl, ht⟩ := h
  exact .tup (SqT.of ht) (.cons (.int _) (.cons (.int _) .nil))
theorem pl_dp {H : Hp} {xs : List V} {ps : List (Int × Int)} (h : PL H xs ps) : DpAll K H xs (ps.map pD) := by
  induction h with
  | nil => exact .nil
  | cons h _ ih => exact .cons h.dp ih
theorem pDs_lay : ∀ ps : List (Int × Int), PyData.canLayAll0 (ps.map pD) = true
  | [] => rfl
  | p :: ps => by
    show ((pD p).canLay0 && PyData.canLayAll0 (ps.map pD)) = true
    rw [pDs_lay ps]
    rfl
theorem pDs_dep : ∀ ps : List (Int × Int), PyData.depthAll (ps.map pD) ≤ 1
  | [] => by simp [PyData.depthAll]
  | p :: ps => by
    have := pDs_dep ps
    simp [PyData.depthAll, pD, PyData.depth] at this ⊢
    omega
theorem pDs_sh (ps : List (Int × Int)) : SeqAt.shaped (.list (ps.map pD)) = true := by
  have h := pDs_dep ps
  show (PyData.canLay0 (.list (ps.map pD)) && decide (PyData.depth (.list (ps.map pD)) ≤ 64)) = true
  rw [Bool.and_eq_true]
  exact ⟨by simp only [PyData.canLay0]; exact pDs_lay ps, decide_eq_true (by simp only [PyData.depth]; omega)⟩
theorem pDs_nil (ps : List (Int × Int)) : (!PyData.eqv (.list (ps.map pD)) (.list [])) = decide (ps ≠ []) := by
  cases ps with
  | nil => decide +kernel
  | cons p ps =>
    rw [decide_eq_true (by simp)]
    simp [PyData.eqv, PyData.eqvAll]
theorem ins_of {H : Hp} {a : Addr} {fs : List Ent} {m1 m2 : Int} (kd : KindAt K H a fs m1 m2) : ∃ dx t r, H a = some (.ins (kc K) dx [("_entries", .ref t), ("_reach", .ref r)]) := by
  obtain ⟨dx, t, r, _, h, _⟩ := kd
  exact ⟨dx, t, r, h⟩
theorem two_sh {es fs : List Ent} (n : ∀ e ∈ es, NmOk e) (m : ∀ e ∈ fs, NmOk e) : SeqAt.shaped (.list [.list (es.map eD), .list (fs.map eD)]) = true := by
  have h := eDs_dep es
  have h2 := eDs_dep fs
  show (PyData.canLay0 (.list [.list (es.map eD), .list (fs.map eD)]) && decide (PyData.depth (.list [.list (es.map eD), .list (fs.map eD)]) ≤ 64)) = true
  rw [Bool.and_eq_true]
  refine ⟨?_, decide_eq_true ?_⟩
  · simp only [PyData.canLay0, PyData.canLayAll0, eDs_lay es n, eDs_lay fs m, Bool.and_true]
  · simp only [PyData.depth, PyData.depthAll]
    omega
theorem two_eqv (es fs : List Ent) : PyData.eqv (.list [.list (es.map eD), .list (fs.map eD)]) (.list [.list (es.map eD), .list (fs.map eD)]) = true := by
  simp only [PyData.eqv, PyData.eqvAll, eqv_eDs]
  simp
theorem repr_pl {H : Hp} {p : Addr} {zs : List V} {ps : List (Int × Int)} {Q : VK} (hp : H p = some (.lst zs)) (h : PL H zs ps) (n : Near ps) (l : ps.length ≤ 6) (q : Q (.str (psTx ps)) H) : Rp.rReprE K [.ref p] H Q := by
  cases h with
  | nil => exact .inr ⟨p, rfl, hp, q⟩
  | cons a t =>
    obtain ⟨as, h1, h2, h3⟩ := pl_swl (K := K) (.cons a t) n
    refine .inl ⟨p, as, _, _, rfl, hp, h1, by simp, fun z => ?_, by omega, ?_, q⟩
    · obtain ⟨u, v, z⟩ := h3 p z
      rw [hp] at z
      cases z
    · exact Nat.le_trans (psTx_len n l) (by decide)
def spPair (K : PySem.W.Frag) : Sp := fun vs H Q _ => ∃ a b xs ys es fs, vs = [.ref a, .ref b] ∧ H a = some (.lst xs) ∧ EL H xs es ∧ Due es ∧ H b = some (.lst ys) ∧ EL H ys fs ∧ Due fs ∧ ∀ H', L2.Same H H' → Q (.bl true) H'
theorem d_pair (T : Txt K mg) : Df P w K mg base 10 "_law_pair_right" ["_law_some", "_law_others"] (spPair K) := by
  have D_l_shifts := d_lshifts (P := P) (w := w) (base := base) T
  obtain ⟨mc, cr, ⟨p0, sta⟩, _⟩ := T.cr
  obtain ⟨fds, G_shi, _, _, K_shi⟩ := d_shi (P := P) (w := w) (base := base) T
  refine T.S_l_pair_right.by sc_l_pair_right (fun vs H Q E h => ?_) (fun f cdv A outer s H vs Q E hr hgd h => ?_)
  · obtain ⟨a, b, xs, ys, es, fs, rfl, _⟩ := h; rfl
  · obtain ⟨a, b, xs, ys, es, fs, rfl, ha, el, du, hb, elf, duf, k⟩ := h
    refine ⟨_, (pss_cons (ps_par (i := 2) (j := 3) rfl sc_l_pair_right.nd rfl rfl (by decide) rfl rfl (pa_cons (pe_staP (pe_glob (v := .ref (He.ga K "Kind")) (by rfl) T.g_Kind rfl) cr sta (d_of T).fp (hr.mono (by first | decide | omega)) hgd (pa_cons (pv 0) pa_nil)) (pa_cons (pe_staP (pe_glob (v := .ref (He.ga K "Kind")) (by rfl) T.g_Kind rfl) cr sta (d_of T).fp (hr.mono (by first | decide | omega)) hgd (pa_cons (pv 1) pa_nil)) pa_nil)) (by first | rfl | with_unfolding_all rfl))
      (pss_cons (ps_par (i := 4) (j := 5) rfl sc_l_pair_right.nd rfl rfl (by decide) rfl rfl (pa_cons (pe_own D_l_shifts (hr.mono (by first | decide | omega)) hgd (pa_cons (pv 0) (pa_cons (pv 1) pa_nil))) (pa_cons (pe_own D_l_shifts (hr.mono (by first | decide | omega)) hgd (pa_cons (pv 1) (pa_cons (pv 0) pa_nil))) pa_nil)) (by first | rfl | with_unfolding_all rfl))
      (pss_cons (ps_set (i := 6) sc_l_pair_right.nd rfl (by first | exact Or.inl rfl | exact Or.inr rfl) (pe_lst (pa_cons (Rx.pe_methX Rx.takesNo (pv 2) T.cls T.m_shifts_in (Rx.FnPX.of (d_shi T).fp) (hr.mono (by first | decide | omega)) hgd (pa_cons (pv 3) pa_nil)) (pa_cons (Rx.pe_methXK Rx.takesNo (pv 3) T.cls T.m_shifts_in (Rx.FnGX.of G_shi) K_shi (hr.mono (by first | decide | omega)) hgd (pk_cons (pv 2) pk_nil)) (pa_cons (Rx.pe_methXK Rx.takesNo (pv 2) T.cls T.m_shifts_in (Rx.FnGX.of G_shi) K_shi (hr.mono (by first | decide | omega)) hgd (pk_cons (pv 3) pk_nil)) (pa_cons (Rx.pe_methX Rx.takesNo (pv 3) T.cls T.m_shifts_in (Rx.FnPX.of (d_shi T).fp) (hr.mono (by first | decide | omega)) hgd (pa_cons (pv 2) pa_nil)) pa_nil))))))
      (pss_cons (ps_if (pt_cmpR op_ne (pe_callB (Rp.call_repr hgd (un200 hr)) (by rfl) T.n_repr (by decide +kernel) (pa_cons (pv 6) pa_nil)) (pe_callB (Rp.call_repr hgd (un200 hr)) (by rfl) T.n_repr (by decide +kernel) (pa_cons (pe_lst (pa_cons (pv 4) (pa_cons (pv 5) (pa_cons (pv 4) (pa_cons (pv 5) pa_nil))))) pa_nil)) (nomark _)) (pss_one (ps_ret pe_bl)) pss_nil)
      (pss_cons (ps_expr (pe_bm PySem.F.plainAttrs_list PySem.F.slot_list_append PySem.F.type_list_append mt_append (pe_ix ix_list (pv 6) pe_int (fun _ _ => rfl)) (pa_cons pe_non pa_nil)))
      (pss_cons (ps_set (i := 7) sc_l_pair_right.nd rfl (by first | exact Or.inl rfl | exact Or.inr rfl) (pe_lst (pa_cons (pe_cmpR (op_leP T.f___le__ T.i___le__ (d_le T).fp (hr.mono (by decide)) hgd) (pv 2) (pv 3) (nomark _)) (pa_cons (pe_cmpR (op_geP T.f___ge__ T.i___ge__ (d_ge T).fp (hr.mono (by decide)) hgd) (pv 2) (pv 3) (nomark _)) (pa_cons (pe_cmpR (op_leP T.f___le__ T.i___le__ (d_le T).fp (hr.mono (by decide)) hgd) (pv 3) (pv 2) (nomark _)) (pa_cons (pe_cmpR (op_geP T.f___ge__ T.i___ge__ (d_ge T).fp (hr.mono (by decide)) hgd) (pv 3) (pv 2) (nomark _)) pa_nil))))))
      (pss_cons (ps_if (pt_cmpR op_ne (pe_callB (Rp.call_repr hgd (un200 hr)) (by rfl) T.n_repr (by decide +kernel) (pa_cons (pv 7) pa_nil)) (pe_callB (Rp.call_repr hgd (un200 hr)) (by rfl) T.n_repr (by decide +kernel) (pa_cons (pe_lst (pa_cons (pe_cmpR (op_neD (un64 hr)) (pv 4) (pe_lst pa_nil) (nomark _)) (pa_cons (pe_cmpR (op_neD (un64 hr)) (pv 5) (pe_lst pa_nil) (nomark _)) (pa_cons (pe_cmpR (op_neD (un64 hr)) (pv 5) (pe_lst pa_nil) (nomark _)) (pa_cons (pe_cmpR (op_neD (un64 hr)) (pv 4) (pe_lst pa_nil) (nomark _)) pa_nil))))) pa_nil)) (nomark _)) (pss_one (ps_ret pe_bl)) pss_nil)
      (pss_cons (ps_if (PW.pt (pw_and (pt_cmpR (op_leP T.f___le__ T.i___le__ (d_le T).fp (hr.mono (by decide)) hgd) (pv 2) (pv 3) (nomark _)) (pw_and (pt_cmpR (op_leP T.f___le__ T.i___le__ (d_le T).fp (hr.mono (by decide)) hgd) (pv 3) (pv 2) (nomark _)) (pw_and1 (pt_cmpR (op_neP T.f___eq__ T.i___eq__ T.ne T.mo (d_eq T).fp (hr.mono (by decide)) hgd) (pv 2) (pv 3) (nomark _)))))) (pss_one (ps_ret pe_bl)) pss_nil)
      (pss_one (ps_ret (pe_and (pe_cmpR op_eq (pe_callB (Rp.call_reprE hgd (un200 hr)) (by rfl) T.n_repr (by decide +kernel) (pa_cons (Rx.pe_methX Rx.takesNo (pv 2) T.cls T.m_shifts_in (Rx.FnPX.of (d_shi T).fp) (hr.mono (by first | decide | omega)) hgd (pa_cons (pv 3) pa_nil)) pa_nil)) (pe_callB (Rp.call_reprE hgd (un200 hr)) (by rfl) T.n_repr (by decide +kernel) (pa_cons (pv 4) pa_nil)) (nomark _)) (pe_one (pe_cmpR (op_eqD (un64 hr)) (pe_lst (pa_cons (pe_methP0 (pv 2) T.cls T.m_entries (d_entries T).fp (hr.mono (by first | decide | omega)) hgd) (pa_cons (pe_methP0 (pv 3) T.cls T.m_entries (d_entries T).fp (hr.mono (by first | decide | omega)) hgd) pa_nil))) (pe_lst (pa_cons (pv 0) (pa_cons (pv 1) pa_nil))) (nomark _)))))))))))))), ?_⟩
    have l0 := du.ok.l0
    have m0 := duf.ok.l0
    have l1 := du.ok.l1
    have m1' := duf.ok.l1
    refine ⟨rfl, _, rfl, a, xs, es, rfl, .inl ha, el, du.ok, fun gs m1 m2 kn => (kn_due du kn).2, fun x gs m1 m2 H1 s1 nx kd kn => ?_⟩
    obtain ⟨rfl, _⟩ := kn_due du kn
    refine ⟨rfl, _, rfl, b, ys, fs, rfl, .inl (s1 _ _ hb), elf.same s1, duf.ok, fun gs m1 m2 kn => (kn_due duf kn).2, fun y hs n1 n2 H2 s2 ny kd2 kn2 => ?_⟩
    obtain ⟨rfl, _⟩ := kn_due duf kn2
    refine ⟨_, _, rfl, ?_⟩
    have s02 := s1.trans s2
    have kd1 := kd.same s2
    refine ⟨_, rfl, _, rfl, a, b, xs, ys, gs, hs, rfl, s02 _ _ ha, el.same s02, du, s02 _ _ hb, elf.same s02, duf, fun d zd H3 s3 nd hd pld => ?_⟩
    have s03 := s02.trans s3
    refine ⟨_, rfl, _, rfl, b, a, ys, xs, hs, gs, rfl, s03 _ _ hb, elf.same s03, duf, s03 _ _ ha, el.same s03, du, fun bk zb H4 s4 nb hbk plb => ?_⟩
    have s04 := s03.trans s4
    refine ⟨_, _, rfl, ?_⟩
    obtain ⟨dx, tx, rx, hx⟩ := ins_of (kd1.same (s3.trans s4))
    obtain ⟨dy, ty, ry, hy⟩ := ins_of (kd2.same (s3.trans s4))
    have kx4 := kd1.same (s3.trans s4)
    have ky4 := kd2.same (s3.trans s4)
    refine ⟨_, rfl, x, dx, _, rfl, hx, rfl, _, rfl, x, y, gs, hs, _, _, _, _, rfl, kx4, ky4, du, duf, fun q1 z1 H5 s5 nq1 hq1 pl1 => ?_⟩
    refine ⟨_, rfl, y, dy, _, rfl, s5 _ _ hy, rfl, _, rfl, y, x, hs, gs, _, _, _, _, rfl, ky4.same s5, kx4.same s5, duf, du, fun q2 z2 H6 s6 nq2 hq2 pl2 => ?_⟩
    have s46 := s5.trans s6
    refine ⟨_, rfl, x, dx, _, rfl, s46 _ _ hx, rfl, _, rfl, x, y, gs, hs, _, _, _, _, rfl, kx4.same s46, ky4.same s46, du, duf, fun q3 z3 H7 s7 nq3 hq3 pl3 => ?_⟩
    have s47 := s46.trans s7
    refine ⟨_, rfl, y, dy, _, rfl, s47 _ _ hy, rfl, _, rfl, y, x, hs, gs, _, _, _, _, rfl, ky4.same s47, kx4.same s47, duf, du, fun q4 z4 H8 s8 nq4 hq4 pl4 => ?_⟩
    have s48 := s47.trans s8
    refine ⟨by show (4 : Nat) ≤ sizeLine; decide +kernel, fun td ntd => ?_⟩
    have sT := Same.new (o := .lst [V.ref q1, V.ref q2, V.ref q3, V.ref q4]) ntd
    have hT : (upd H8 td (.lst [V.ref q1, V.ref q2, V.ref q3, V.ref q4])) td = some (.lst [.ref q1, .ref q2, .ref q3, .ref q4]) := upd_same
    have w1 := s8 _ _ (s7 _ _ (s6 _ _ hq1))
    have w2 := s8 _ _ (s7 _ _ hq2)
    have w3 := s8 _ _ hq3
    have pw1 : PL H8 z1 (shfs gs hs) := pl_same pl1 (s6.trans (s7.trans s8))
    have pw2 : PL H8 z2 (shfs hs gs) := pl_same pl2 (s7.trans s8)
    have pw3 : PL H8 z3 (shfs gs hs) := pl_same pl3 s8
    have nA := near_shfs du duf
    have nB := near_shfs duf du
    have lA : (shfs gs hs).length ≤ 6 := Nat.le_trans len_shfs m1'
    have lB : (shfs hs gs).length ≤ 6 := Nat.le_trans len_shfs l1
    have hd8 := s48 _ _ (s4 _ _ hd)
    have hb8 := s48 _ _ hbk
    have pd8 : PL H8 zd (shfs gs hs) := pl_same pld (s4.trans s48)
    have pb8 : PL H8 zb (shfs hs gs) := pl_same plb s48
    have tnH : H td = none := ((s04.trans s48)).free ntd
    refine ⟨_, rfl, ?_⟩
    obtain ⟨as, sw, na, la, lt⟩ := four_sw (K := K) (sT _ _ w1) (sT _ _ w2) (sT _ _ w3) (sT _ _ hq4) (pl_same pw1 sT) (pl_same pw2 sT) (pl_same pw3 sT) (pl_same pl4 sT) nA nB nA nB lA lB lA lB hT (ne_of_none w1 ntd).symm (ne_of_none w2 ntd).symm (ne_of_none w3 ntd).symm (ne_of_none hq4 ntd).symm
    refine ⟨td, as, _, _, rfl, hT, sw, by simp, na, la, lt, ?_⟩
    refine ⟨_, rfl, _, rfl, _, rfl, _, rfl, by show (4 : Nat) ≤ sizeLine; decide +kernel, fun u nu => ?_⟩
    have sU := Same.new (o := .lst [V.ref d, V.ref bk, V.ref d, V.ref bk]) nu
    have sTU := sT.trans sU
    obtain ⟨as2, sw2, na2, la2, lt2⟩ := four_sw (K := K) (sTU _ _ hd8) (sTU _ _ hb8) (sTU _ _ hd8) (sTU _ _ hb8) (pl_same pd8 sTU) (pl_same pb8 sTU) (pl_same pd8 sTU) (pl_same pb8 sTU) nA nB nA nB lA lB lA lB upd_same (ne_of_none (sT _ _ hd8) nu).symm (ne_of_none (sT _ _ hb8) nu).symm (ne_of_none (sT _ _ hd8) nu).symm (ne_of_none (sT _ _ hb8) nu).symm
    refine ⟨u, as2, _, _, rfl, upd_same, sw2, by simp, na2, la2, lt2, ?_⟩
    refine ⟨rfl, _, rfl, ?_⟩
    rw [decide_eq_true rfl]
    refine iteF ?_
    -- the first of what is told changes
    have hT2 := sU _ _ hT
    have w1U := sTU _ _ w1
    refine ⟨_, rfl, td, _, 0, _, rfl, rfl, SqL.of hT2, rfl, ty_lst w1U, ?_⟩
    have lz1 : z1.length ≤ 6 := by rw [pw1.length]; exact lA
    refine ⟨q1, z1, .non, rfl, rfl, w1U, Nat.lt_of_le_of_lt lz1 (by decide), ?_⟩
    have q1n : H4 q1 = none := nq1
    have sV : L2.Same H4 (upd (upd (upd H8 td (.lst [V.ref q1, V.ref q2, V.ref q3, V.ref q4])) u (.lst [V.ref d, V.ref bk, V.ref d, V.ref bk])) q1 (.lst (z1 ++ [.non]))) := Same.mut (s48.trans sTU) q1n
    generalize upd (upd (upd H8 td (.lst [V.ref q1, V.ref q2, V.ref q3, V.ref q4])) u (.lst [V.ref d, V.ref bk, V.ref d, V.ref bk])) q1 (.lst (z1 ++ [.non])) = G at sV
    have s0G := s04.trans sV
    have kxG := kx4.same sV
    have kyG := ky4.same sV
    have hxG := sV _ _ hx
    have hyG := sV _ _ hy
    have hdG := sV _ _ (s4 _ _ hd)
    have hbG := sV _ _ hbk
    have pdG : PL G zd (shfs gs hs) := pl_same pld (s4.trans sV)
    have pbG : PL G zb (shfs hs gs) := pl_same plb sV
    refine ⟨_, rfl, _, rfl, x, dx, _, _, rfl, hxG, own_ty T hyG, nf_own, x, y, gs, hs, _, _, _, _, rfl, kxG, kyG, du, duf, fun H9 s9 => ⟨_, rfl, ?_⟩⟩
    refine ⟨_, rfl, _, rfl, x, dx, _, _, rfl, s9 _ _ hxG, own_ty T (s9 _ _ hyG), nf_own, x, y, gs, hs, _, _, _, _, rfl, kxG.same s9, kyG.same s9, du, duf, fun H10 s10 => ⟨_, rfl, ?_⟩⟩
    have s910 := s9.trans s10
    refine ⟨_, rfl, _, rfl, y, dy, _, _, rfl, s910 _ _ hyG, own_ty T (s910 _ _ hxG), nf_own, y, x, hs, gs, _, _, _, _, rfl, kyG.same s910, kxG.same s910, duf, du, fun H11 s11 => ⟨_, rfl, ?_⟩⟩
    have s911 := s910.trans s11
    refine ⟨_, rfl, _, rfl, y, dy, _, _, rfl, s911 _ _ hyG, own_ty T (s911 _ _ hxG), nf_own, y, x, hs, gs, _, _, _, _, rfl, kyG.same s911, kxG.same s911, duf, du, fun H12 s12 => ⟨_, rfl, ?_⟩⟩
    have s912 := s911.trans s12
    obtain ⟨be, ebe⟩ : ∃ be, decide (shfs gs hs ≠ []) = be := ⟨_, rfl⟩
    obtain ⟨bf, ebf⟩ : ∃ bf, decide (shfs hs gs ≠ []) = bf := ⟨_, rfl⟩
    simp only [ebe, ebf, Bool.false_eq_true, if_false, if_true]
    refine ⟨by show (4 : Nat) ≤ sizeLine; decide +kernel, fun sg nsg => ?_⟩
    have sS := Same.new (o := .lst [V.bl be, V.bl bf, V.bl bf, V.bl be]) nsg
    refine ⟨_, rfl, sg, [], _, _, rfl, upd_same, .cons (.bl be) (.cons (.bl bf) (.cons (.bl bf) (.cons (.bl be) .nil))), by simp, by simp, by decide, ?_, ?_⟩
    · cases be <;> cases bf <;> decide +kernel
    have sG1 := s912.trans sS
    generalize upd H12 sg (.lst [V.bl be, V.bl bf, V.bl bf, V.bl be]) = G1 at sG1
    have nilD : SeqAt.shaped (.list []) = true := by decide +kernel
    refine ⟨_, rfl, by show (0 : Nat) ≤ sizeLine; decide +kernel, fun e1 ne1 => ?_⟩
    have r1 := sG1.trans (Same.new (o := .lst []) ne1)
    refine ⟨.list ((shfs gs hs).map pD), .list [], .lst (SqL.of (r1 _ _ hdG)) (pl_dp (pl_same pdG r1)), .lst (SqL.of upd_same) .nil, pDs_sh _, nilD, ?_⟩
    rw [pDs_nil, ebe]
    generalize upd G1 e1 (.lst []) = G2 at r1
    refine ⟨_, rfl, by show (0 : Nat) ≤ sizeLine; decide +kernel, fun e2 ne2 => ?_⟩
    have r2 := r1.trans (Same.new (o := .lst []) ne2)
    refine ⟨.list ((shfs hs gs).map pD), .list [], .lst (SqL.of (r2 _ _ hbG)) (pl_dp (pl_same pbG r2)), .lst (SqL.of upd_same) .nil, pDs_sh _, nilD, ?_⟩
    rw [pDs_nil, ebf]
    generalize upd G2 e2 (.lst []) = G3 at r2
    refine ⟨_, rfl, by show (0 : Nat) ≤ sizeLine; decide +kernel, fun e3 ne3 => ?_⟩
    have r3 := r2.trans (Same.new (o := .lst []) ne3)
    refine ⟨.list ((shfs hs gs).map pD), .list [], .lst (SqL.of (r3 _ _ hbG)) (pl_dp (pl_same pbG r3)), .lst (SqL.of upd_same) .nil, pDs_sh _, nilD, ?_⟩
    rw [pDs_nil, ebf]
    generalize upd G3 e3 (.lst []) = G4 at r3
    refine ⟨_, rfl, by show (0 : Nat) ≤ sizeLine; decide +kernel, fun e4 ne4 => ?_⟩
    have r4 := r3.trans (Same.new (o := .lst []) ne4)
    refine ⟨.list ((shfs gs hs).map pD), .list [], .lst (SqL.of (r4 _ _ hdG)) (pl_dp (pl_same pdG r4)), .lst (SqL.of upd_same) .nil, pDs_sh _, nilD, ?_⟩
    rw [pDs_nil, ebe]
    generalize upd G4 e4 (.lst []) = G5 at r4
    refine ⟨by show (4 : Nat) ≤ sizeLine; decide +kernel, fun sh nsh => ?_⟩
    have r5 := r4.trans (Same.new (o := .lst [V.bl be, V.bl bf, V.bl bf, V.bl be]) nsh)
    refine ⟨sh, [], _, _, rfl, upd_same, .cons (.bl be) (.cons (.bl bf) (.cons (.bl bf) (.cons (.bl be) .nil))), by simp, by simp, by decide, ?_, ?_⟩
    · cases be <;> cases bf <;> decide +kernel
    generalize upd G5 sh (.lst [V.bl be, V.bl bf, V.bl bf, V.bl be]) = G6 at r5
    refine ⟨rfl, _, rfl, ?_⟩
    rw [decide_eq_true rfl]
    refine iteF ?_
    -- a <= b and b <= a: the same
    dsimp only [tNext]
    refine seq_cut (fun σ' H' => L2.Same G6 H' ∧ σ' = [some (.ref a), some (.ref b), some (.ref x), some (.ref y), some (.ref d), some (.ref bk), some (.ref td), some (.ref sg)]) (fun σ' H' q => ?_) (fun main => ?_)
    · obtain ⟨t6, rfl⟩ := q
      have t5 := r5.trans t6
      refine ⟨_, rfl, x, dx, _, rfl, t5 _ _ hxG, rfl, _, rfl, x, y, gs, hs, _, _, _, _, rfl, kxG.same t5, kyG.same t5, du, duf, fun q5 z5 H13 s13 nq5 hq5 pl5 => ?_⟩
      refine repr_pl hq5 pl5 nA lA ?_
      have t13 := t5.trans s13
      refine ⟨_, rfl, repr_pl (t13 _ _ hdG) (pl_same pdG t13) nA lA ?_⟩
      refine ⟨rfl, ?_⟩
      rw [decide_eq_true rfl]
      refine ⟨true, rfl, iteT ?_⟩
      refine ⟨_, rfl, x, dx, _, rfl, t13 _ _ hxG, rfl, x, gs, _, _, rfl, kxG.same t13, fun o1 w1 H14 s14 no1 ho1 eo1 => ?_⟩
      have t14 := t13.trans s14
      refine ⟨_, rfl, y, dy, _, rfl, t14 _ _ hyG, rfl, y, hs, _, _, rfl, kyG.same t14, fun o2 w2 H15 s15 no2 ho2 eo2 => ?_⟩
      refine ⟨by show (2 : Nat) ≤ sizeLine; decide +kernel, fun u1 nu1 => ?_⟩
      have v1 := Same.new (o := .lst [V.ref o1, V.ref o2]) nu1
      refine ⟨_, rfl, _, rfl, by show (2 : Nat) ≤ sizeLine; decide +kernel, fun u2 nu2 => ?_⟩
      have v2 := Same.new (o := .lst [V.ref a, V.ref b]) nu2
      have v12 := v1.trans v2
      have t16 := s0G.trans (t14.trans (s15.trans v12))
      have sh2 : SeqAt.shaped (.list [.list (gs.map eD), .list (hs.map eD)]) = true := two_sh du.nm duf.nm
      refine ⟨.list [.list (gs.map eD), .list (hs.map eD)], .list [.list (gs.map eD), .list (hs.map eD)], .lst (SqL.of (v2 _ _ upd_same)) (.cons (.lst (SqL.of (v12 _ _ (s15 _ _ ho1))) (eo1.same (s15.trans v12)).dp) (.cons (.lst (SqL.of (v12 _ _ ho2)) (eo2.same v12).dp) .nil)),
        .lst (SqL.of upd_same) (.cons (.lst (SqL.of (t16 _ _ ha)) (el.same t16).dp) (.cons (.lst (SqL.of (t16 _ _ hb)) (elf.same t16).dp) .nil)), sh2, sh2, ?_⟩
      rw [two_eqv]
      exact k _ t16
    · refine ⟨_, rfl, _, rfl, x, dx, _, _, rfl, r5 _ _ hxG, own_ty T (r5 _ _ hyG), nf_own, x, y, gs, hs, _, _, _, _, rfl, kxG.same r5, kyG.same r5, du, duf, fun K1 t1 => ⟨_, rfl, _, rfl, ?_⟩⟩
      simp only [ebe, Bool.false_eq_true, if_false]
      cases be with
      | false =>
        refine iteF ?_
        exact main _ _ ⟨t1, rfl⟩
      | true =>
        have rt := r5.trans t1
        refine iteT ⟨_, rfl, _, rfl, y, dy, _, _, rfl, rt _ _ hyG, own_ty T (rt _ _ hxG), nf_own, y, x, hs, gs, _, _, _, _, rfl, kyG.same rt, kxG.same rt, duf, du, fun K2 t2 => ⟨_, rfl, _, rfl, ?_⟩⟩
        simp only [ebf, Bool.false_eq_true, if_false]
        cases bf with
        | false =>
          refine iteF ?_
          exact main _ _ ⟨t1.trans t2, rfl⟩
        | true =>
          have rt2 := rt.trans t2
          obtain ⟨p1, lp1⟩ := (shfs_ne (by omega)).mp (of_decide_eq_true ebe)
          obtain ⟨p2, lp2⟩ := (shfs_ne (by omega)).mp (of_decide_eq_true ebf)
          have egh := lies_both du duf lp1 lp2
          refine iteT ⟨_, rfl, _, rfl, x, dx, _, _, rfl, rt2 _ _ hxG, own_ty T (rt2 _ _ hyG), nf_own, x, gs, _, _, _, rfl, kxG.same rt2, du.ok.ok, .inl ⟨y, hs, _, _, rfl, kyG.same rt2, duf.ok.ok, _, rfl, ?_⟩⟩
          rw [decide_eq_true egh]
          refine ⟨false, rfl, ?_⟩
          exact iteF (main _ _ ⟨t1.trans t2, rfl⟩)
end
end K12

set_option Elab.async false
set_option linter.all false
set_option maxRecDepth 100000
set_option maxHeartbeats 4000000
namespace PySem
/-! ### a tuple as a key beside texts -/
section
variable {prog : Program} {w : World} {A : Around} {E : Value → Shared → Prop} {s : Shared} {d t : Addr} {o : Obj} {es : Array DictEntry} {ep : Nat}
theorem od_tells {stored : List Value} {Q : Bool → Shared → Prop} (hq : ∀ (Q : Bool → Shared → Prop), Q true s → wpAny (model prog w) A (eqIsQuiet 8 (.ref t)) Q E s) (hst : ∀ v ∈ stored, carriedByValue v = true) (k : Q false s) :
    wpAny (model prog w) A (tableMayTell (.ref t) stored) Q E s := by
  unfold tableMayTell
  split
  · exact wpAny_pure k
  refine wpAny_bind (hq _ ?_)
  simp only [Bool.not_true, Bool.false_eq_true, if_false]
  refine wpAny_bind (wpAny_forIn_list _ (fun rest r s' => s' = s ∧ r = (none, ()) ∧ ∀ v ∈ rest, carriedByValue v = true) _ ?_ ?_ _ _ ⟨rfl, rfl, hst⟩)
  · rintro x rest r s' ⟨rfl, rfl, hr⟩
    rw [eqIsQuiet_byValue 8 (hr x List.mem_cons_self)]
    refine wpAny_bind (wpAny_pure ?_)
    simp only [Bool.not_true, Bool.false_eq_true, if_false]
    exact wpAny_pure ⟨rfl, rfl, fun v hv => hr v (List.mem_cons_of_mem _ hv)⟩
  · rintro r s' ⟨rfl, rfl, _⟩
    exact wpAny_pure k
/-- it isn't found -/
theorem od_find {h : Int} {Q : Option Nat → Shared → Prop} (ho : s.heap.get? d = some o) (hd : o.data = .dict es ep) (hv : ∀ e ∈ es, carriedByValue e.key = true) (he : ∀ e ∈ es, SeqAt.EqAt A s e.key (.ref t) false)
    (hq : ∀ (Q : Bool → Shared → Prop), Q true s → wpAny (model prog w) A (eqIsQuiet 8 (.ref t)) Q E s) (k : Q none s) : wpAny (model prog w) A (dictFind d (.ref t) h) Q E s := by
  have nany : ¬ (es.any fun e => e.key == Value.ref t && e.hash != h) = true := by
    rw [← Array.any_toList, List.any_eq_true]
    rintro ⟨e, hin, hc⟩
    have z := hv e (Array.mem_toList_iff.mp hin)
    rw [Bool.and_eq_true] at hc
    rw [beq_iff_eq.mp hc.1] at z
    cases z
  have hst : ∀ v ∈ (placesWithHash es.size (fun i => es[i]?.map (·.hash)) h).filterMap (fun i => es[i]?.map (·.key)), carriedByValue v = true := by
    intro v hm
    obtain ⟨i, _, hi⟩ := List.mem_filterMap.mp hm
    cases hei : es[i]? with
    | none => rw [hei] at hi; cases hi
    | some e =>
      rw [hei] at hi
      obtain rfl : e.key = v := by simpa using hi
      exact hv e (Array.mem_of_getElem? hei)
  unfold dictFind
  try with_reducible refine wpAny_holding ?_
  refine wpAny_bind (wpAny_dictEntries ho hd ?_)
  dsimp only
  rw [if_neg (show ¬ ((Value.ref t :: (placesWithHash es.size (fun i => es[i]?.map (·.hash)) h).filterMap (fun i => es[i]?.map (·.key))).all carriedByValue) = true by simp [carriedByValue]), if_neg nany]
  by_cases one : (((placesWithHash es.size (fun i => es[i]?.map (·.hash)) h).filterMap (fun i => es[i]?.map (·.key))) == [Value.ref t]) = true <;>
  (first | rw [if_pos one] | rw [if_neg one]) <;> (first | refine wpAny_bind (wpAny_pure ?_) | refine wpAny_bind (od_tells hq hst ?_)) <;> (
    rw [if_neg (by simp)]
    refine wpAny_bind (wpAny_forIn_list _ (fun rest b s' => s' = s ∧ b = (none, none)) _ ?_ ?_ _ _ ⟨rfl, rfl⟩)
    · rintro x rest b s' ⟨rfl, rfl⟩
      cases hx : es[x]? with
      | none => exact wpAny_pure ⟨rfl, rfl⟩
      | some e =>
        dsimp only
        by_cases hh : (e.hash == h) = true
        · rw [if_pos hh]
          refine wpAny_bind (wpAny_dictEpoch ho hd (wpAny_bind (he e (Array.mem_of_getElem? hx) _ _ _ _ (wpAny_bind (wpAny_dictEpoch ho hd ?_)))))
          show wpAny _ _ (if (ep != ep) = true then _ else _) _ E _
          rw [if_neg (by simp)]
          simp only [Bool.false_eq_true, if_false]
          refine wpAny_bind (wpAny_rule ?_)
          first | rw [if_neg (by simp)] | skip
          first
            | exact wpAny_pure ⟨rfl, rfl⟩
            | exact wpAny_bind (wpAny_pure (wpAny_pure ⟨rfl, rfl⟩))
        · rw [if_neg hh]
          exact wpAny_pure ⟨rfl, rfl⟩
    · rintro b s' ⟨rfl, rfl⟩
      exact wpAny_pure k)
end
end PySem
namespace PySem
section
variable {prog : Program} {w : World} {A : Around} {E : Value → Shared → Prop} {s : Shared} {d t : Addr}
theorem od_keys : ∀ {es : List DictEntry} {kvs : List (L2.Key × Value)}, Pairs (L2.mixKind prog w) es kvs → (∀ p ∈ kvs, ∃ z, p.1 = Sum.inr z ∧ PyData.strOk z = true) → ∀ e ∈ es, ∃ z u, e.key = .str z u ∧ PyData.strOk z = true
  | [], _, _, _, e, he => by cases he
  | e0 :: es, [], h, _, _, _ => by cases h
  | e0 :: es, p :: kvs, h, hk, e, he => by
    rcases List.mem_cons.mp he with rfl | he
    · obtain ⟨z, ez, oz⟩ := hk p (List.mem_cons_self ..)
      have h1 : L2.keyIs p.1 e.key = true := by cases h; assumption
      rw [ez] at h1
      rcases L2.keyIs_shape h1 with ⟨i, u, q, _⟩ | ⟨x, u, q, e1⟩
      · cases q
      · cases q
        exact ⟨_, _, e1, oz⟩
    · have h2 : Pairs (L2.mixKind prog w) es kvs := by cases h; assumption
      exact od_keys h2 (fun q hq => hk q (List.mem_cons_of_mem _ hq)) e he
theorem od_set {kvs : List (L2.Key × Value)} {x : Str} {v : Value} {Q : Unit → Shared → Prop} (hu : A.units + 4 < cLine) (hx : PyData.strOk x = true) (ht : IsTupleKey (L2.mixKind prog w) s.heap [Sum.inr x] t) (hm : s.heap.DictOf (L2.mixKind prog w) d kvs)
    (hk : ∀ p ∈ kvs, ∃ z, p.1 = Sum.inr z ∧ PyData.strOk z = true) (hz : kvs.length ≤ sizeLine)
    (hQ : ∀ (h' : Heap) (tk : Tok) (es : Array DictEntry) (ep : Nat) (hs : Int), h'.DictRaw d (es.push ⟨hs, .ref t, v⟩) ep → Pairs (L2.mixKind prog w) es.toList kvs → Heap.SameBut d s.heap h' → Q () { s with heap := h', toks := tk }) : wpAny (model prog w) A (dictSet d (.ref t) v) Q E s := by
  obtain ⟨o, es, ep, ho, hc, hd, hko, hp, hn⟩ := hm
  have keys := od_keys hp hk
  obtain ⟨to, items, n, t1, t2, t3, t4⟩ := id ht
  have tup : ∃ as, Reads s.heap (.ref t) (.tuple [.str x]) as := by
    cases t4l : items.toList with
    | nil => rw [t4l] at t4; cases t4
    | cons a r =>
      rw [t4l] at t4
      cases t4 with
      | cons h1 h2 =>
        cases h2
        rcases L2.keyIs_shape (show L2.keyIs (Sum.inr x) a = true from h1) with ⟨i, u, q, _⟩ | ⟨y, u, q, e1⟩
        · cases q
        · cases q
          rw [e1] at t4l
          exact ⟨_, .tuple t1 t2 t3 (by rw [t4l]; exact .cons (.str _ _) .nil)⟩
  unfold dictSet
  try with_reducible refine wpAny_holding ?_
  refine wpAny_bind (wpAny_pyHash_tuple (by omega) ht ?_)
  unfold dictSetHashed
  try with_reducible refine wpAny_holding ?_
  refine wpAny_bind (od_find (s := { s with toks := s.toks + ([Sum.inr x] : List L2.Key).length + 1 }) ho hd (fun e he => ?_) (fun e he => ?_) (fun Q q => wpAny_eqIsQuiet_tuple (knd := L2.mixKind prog w) ht q) ?_)
  · obtain ⟨z, u, q, _⟩ := keys e (Array.mem_toList_iff.mpr he)
    rw [q]
    rfl
  · obtain ⟨z, u, q, oz⟩ := keys e (Array.mem_toList_iff.mpr he)
    obtain ⟨as, r⟩ := tup
    rw [q]
    exact SeqAt.eqAt_reads (.str z) (.tuple [.str x]) A _ _ _ _ _ (.str z u) r oz (by simp [PyData.canLay0, PyData.canLayAll0, hx]) (by simp only [PyData.depth]; omega)
  · refine wpAny_bind (wpAny_rule (wpAny_updateDictKeys (hz := by have e1 := hp.length; have e2 : es.toList.length = es.size := Array.length_toList; omega) (s := { s with toks := _ }) ho hd ?_))
    exact hQ _ _ es (ep + 1) _ ⟨_, Heap.get?_update_self _ ho (Obj.isFreed_of_dict (Obj.data_mapDictKeys hd _)), hc.mapDictKeys _, Obj.data_mapDictKeys hd _⟩ hp (Heap.SameBut.update ..)
end
end PySem
namespace PySem
section
variable {prog : Program} {w : World} {A : Around} {E : Value → Shared → Prop} {s : Shared} {t : Addr}
theorem od_tkeep {h h' : Heap} {ks : List L2.Key} (x : IsTupleKey (L2.mixKind prog w) h ks t) (e : ∀ o, h.get? t = some o → h'.get? t = some o) : IsTupleKey (L2.mixKind prog w) h' ks t := by
  obtain ⟨o, items, n, h1, h2⟩ := x
  exact ⟨o, items, n, e _ h1, h2⟩
/-- dict(l), l a list of pairs whose last key is a tuple of one text -/
theorem od_dict {l : Addr} {items : Array Value} {Ts : Nat → Addr} {ps : List (Value × Value)} {prs : List (L2.Key × Value)} {x : Str} {v : Value} {Q : Value → Shared → Prop} (hh : A.handled = none) (hu : A.units + 8 < cLine) (hl : PlainSeq "list" s.heap l items) (hi : PairItems s.heap items Ts ps)
    (hn : ps.length = prs.length + 1) (hp : ∀ (i : Nat) (q : L2.Key × Value), prs[i]? = some q → ∃ u, ps[i]? = some (u, q.2) ∧ L2.keyIs q.1 u = true) (hlast : ps[prs.length]? = some (.ref t, v)) (hx : PyData.strOk x = true) (ht : IsTupleKey (L2.mixKind prog w) s.heap [Sum.inr x] t)
    (hk : ∀ p ∈ merged [] prs, ∃ z, p.1 = Sum.inr z ∧ PyData.strOk z = true) (hsz : prs.length ≤ sizeLine)
    (h : ∀ (h' : Heap) (tk : Tok) (es : Array DictEntry) (ep : Nat) (hs : Int), h'.DictRaw s.heap.objs.size (es.push ⟨hs, .ref t, v⟩) ep → Pairs (L2.mixKind prog w) es.toList (merged [] prs) → (∀ b o, s.heap.get? b = some o → h'.get? b = some o) →
      Q (.ref s.heap.objs.size) { s with heap := h', toks := tk }) : wpAny (model prog w) A (call (.type "dict") [.ref l]) Q E s := by
  refine call_dict_arg (PairArg.list l items Ts ps) ⟨hl, hi⟩ fun s1 hs1 hdf ok1 => ?_
  subst hs1
  obtain ⟨d, ed⟩ : ∃ d, d = s.heap.objs.size := ⟨_, rfl⟩
  have tlt : t < d := by
    obtain ⟨o, items, n, h1, _⟩ := ht
    rw [ed]
    exact Heap.lt_size h1
  have ht1 : IsTupleKey (L2.mixKind prog w) (s.heap.push { cls := .type "dict", data := .dict #[] }) [Sum.inr x] t := od_tkeep ht fun o e => Heap.get?_push_of_some _ e
  rw [← ed]
  refine updateFrom_arg (A := A.in1) (Tab := fun i g => IsTupleKey (L2.mixKind prog w) g [Sum.inr x] t ∧ ((i ≤ prs.length ∧ g.DictOf (L2.mixKind prog w) d (merged [] (prs.take i))) ∨
    (i = prs.length + 1 ∧ ∃ (es : Array DictEntry) (ep : Nat) (hs : Int), g.DictRaw d (es.push ⟨hs, .ref t, v⟩) ep ∧ Pairs (L2.mixKind prog w) es.toList (merged [] prs)))) (PairArg.list l items Ts ps) .none hh ok1 (by rw [ed]; exact hdf) ?_ ?_ ?_ ?_ ?_
  · exact ⟨ht1, .inl ⟨Nat.zero_le _, by rw [ed]; exact Heap.DictOf.new s.heap⟩⟩
  · rintro i g ⟨_, ⟨_, tb⟩ | ⟨_, es, ep, hs, tb, _⟩⟩
    · exact tb.lt_size
    · exact tb.lt_size
  · rintro i g g' wr' hd hw ⟨tt, tb⟩ hkp
    have tn : t ∉ wr' := fun m => by
      rcases hw t m with q | q
      · cases q
      · obtain ⟨o, its, n, h1, _⟩ := ht1
        rw [show (s.heap.push { cls := .type "dict", data := .dict #[] }).get? t = none from q] at h1
        cases h1
    refine ⟨od_tkeep tt fun o e => hkp t o tn e, ?_⟩
    rcases tb with ⟨le, tb⟩ | ⟨e1, es, ep, hs, tb, pr⟩
    · exact .inl ⟨le, tb.at' fun o e => hkp d o hd e⟩
    · exact .inr ⟨e1, es, ep, hs, tb.at fun o e => hkp d o hd e, pr⟩
  · rintro i key u s' Q' E' hi' hrel ⟨tt, tb⟩ _ hQ
    rcases tb with ⟨le, tb⟩ | ⟨e1, _⟩
    · by_cases c : i < prs.length
      · obtain ⟨q, hq⟩ : ∃ q, prs[i]? = some q := ⟨prs[i], List.getElem?_eq_getElem c⟩
        obtain ⟨u', h1, h2⟩ := hp i q hq
        have e2 : some (u', q.2) = some (key, u) := h1.symm.trans hrel
        cases e2
        refine wpAny_dictSet_pairs (hsz := by have := merged_length ([] : List (L2.Key × Value)) (prs.take i); rw [List.length_take] at this; simp at this; omega) (knd := L2.mixKind prog w) (k := q.1) h2 tb fun h' hm' hs => ?_
        exact hQ h' _ ⟨od_tkeep tt fun o e => hs.extBut t o (Nat.ne_of_lt tlt) e, .inl ⟨c, by rw [merged_take_succ [] prs i q hq]; exact hm'⟩⟩ hs
      · have ei : i = prs.length := by omega
        subst ei
        have e2 : some (Value.ref t, v) = some (key, u) := hlast.symm.trans hrel
        cases e2
        rw [List.take_of_length_le (Nat.le_refl _)] at tb
        have ml := merged_length ([] : List (L2.Key × Value)) prs
        refine od_set (x := x) (kvs := merged [] prs) (by simp; omega) hx tt tb hk (by simp at ml; omega) fun h' tk es ep hs r pr sb => ?_
        exact hQ h' tk ⟨od_tkeep tt fun o e => sb.extBut t o (Nat.ne_of_lt tlt) e, .inr ⟨rfl, es, ep, hs, r, pr⟩⟩ sb
    · rw [hn] at hi'
      omega
  · rintro h' tk ⟨_, tb⟩ hkp
    rcases tb with ⟨le, _⟩ | ⟨_, es, ep, hs, r, pr⟩
    · rw [hn] at le
      omega
    · refine ⟨rfl, ?_⟩
      rw [ed] at r hkp ⊢
      exact h h' tk es ep hs r pr fun b o e => hkp b o (Nat.ne_of_lt (Heap.lt_size e)) (by simp) (Heap.get?_push_of_some _ e)
end
end PySem
namespace Od
open PySem L2 Lay Own PySem.Spec PyProof.Rows
/-! ### dicts by their entries: texts, and one odd key -/
def RawDict (h : Heap) (a : Addr) (kvs : List (V × V)) : Prop := (a == sysModules) = false ∧ kvs.length ≤ sizeLine ∧ ∃ (es : Array DictEntry) (ep : Nat), h.DictRaw a es ep ∧ Vals (kvs.map (·.1)) (es.toList.map (·.key)) ∧ Vals (kvs.map (·.2)) (es.toList.map (·.val))
def OddO (a : Addr) (kvs : List (V × V)) : HO := .ext fun h => RawDict h a kvs
theorem odd_ok {P : Program} {w : World} {H : Hp} {h : Heap} {a : Addr} {kvs : List (V × V)} (r : RawDict h a kvs) : ObjOk P w H h a (OddO a kvs) := by
  refine ⟨r, ?_, fun h1 h2 q k => ?_⟩
  · obtain ⟨_, _, es, ep, ⟨o, ho, _⟩, _⟩ := r
    exact ⟨o, ho⟩
  · obtain ⟨s, l, es, ep, ⟨o, ho, hr⟩, v⟩ := q
    exact ⟨s, l, es, ep, ⟨o, k o ho, hr⟩, v⟩
/-- at a stands a dict of these entries -/
def RD (H : Hp) (a : Addr) (kvs : List (V × V)) : Prop := H a = some (OddO a kvs) ∨ ∃ ks : List (Key × V), H a = some (.dK ks) ∧ kvs = ks.map fun p => (kV p.1, p.2)
theorem RD.same {H H' : Hp} {a : Addr} {kvs : List (V × V)} (h : RD H a kvs) (s : L2.Same H H') : RD H' a kvs := by
  rcases h with h | ⟨ks, h, e⟩
  · exact .inl (s _ _ h)
  · exact .inr ⟨ks, s _ _ h, e⟩
section
variable {X : Cx} {pins : List (Addr × Obj)} {σ : L2.St} {H : Hp} {s : Shared}
theorem raw_of {a : Addr} {kvs : List (V × V)} (I : Inv X pins σ H s) (h : RD H a kvs) : RawDict s.heap a kvs := by
  rcases h with h | ⟨ks, h, rfl⟩
  · exact (show ObjOk X.prog X.w H s.heap a (OddO a kvs) from I.hok a _ h).1
  · obtain ⟨z, sy, vs, kv, o, es, ep, e1, e2, e3, _, e4, _⟩ := (show ObjOk X.prog X.w H s.heap a (.dK ks) from I.hok a _ h)
    obtain ⟨v1, v2⟩ := Rp.keys_vals e4 kv
    refine ⟨sy, by rw [List.length_map]; exact z, es, ep, ⟨o, e1, e2, e3⟩, ?_, ?_⟩
    · rw [List.map_map]
      exact v1
    · rw [List.map_map]
      exact v2
theorem items_vals {es : Array DictEntry} {xs : List V} {acc : Array Value} {f : DictEntry → Value} (v : Vals xs (es.toList.map f)) (it : ItemsOf (fun i u => ∃ hi : i < es.size, u = f es[i]) acc es.size) : Vals xs acc.toList := by
  have l : xs.length = es.size := by
    have z := v.length
    rw [List.length_map] at z
    exact z.trans Array.length_toList
  refine vals_of_at (by rw [show acc.toList.length = acc.size from Array.length_toList, it.1, l]) fun j x u h1 h2 => ?_
  obtain ⟨hj, e⟩ := it.2 j u (by rw [← Array.getElem?_toList]; exact h2)
  obtain ⟨u', h3, r⟩ := v.get h1
  have h4 : (es.toList.map f)[j]? = some (f es[j]) := by
    rw [List.getElem?_map, Array.getElem?_toList, Array.getElem?_eq_getElem hj]
    rfl
  rw [h4] at h3
  cases h3
  rw [e]
  exact r
/-- list(d) -/
theorem call_listO (hc : X.calm = true) : CallR X (.type "list") (fun xs H Q => ∃ p kvs, xs = [.ref p] ∧ RD H p kvs ∧ ∀ q, H q = none → Q (.ref q) (upd H q (.lst (kvs.map (·.1))))) := by
  intro pins s σ H xs us Q I r h
  obtain ⟨p, kvs, e, hk, q⟩ := h
  subst e
  obtain ⟨u, eu, rx⟩ := vals1 r
  subst eu
  obtain rfl : u = Value.ref p := rx
  obtain ⟨sy, z, es, ep, hm, v1, v2⟩ := raw_of I hk
  have l : kvs.length = es.size := by
    have z := v1.length
    rw [List.length_map, List.length_map] at z
    exact z.trans Array.length_toList
  refine PySem.W.kdl_call (PySem.KdlSrc.rawDict (es := es) (ep := ep) sy) (I.ok.hd hc) hm (by rw [← l]; exact z) fun h' tk acc' c' hkeep hS hacc => ?_
  refine ⟨.ref s.heap.objs.size, upd H s.heap.objs.size (.lst (kvs.map (·.1))), I.laid hkeep (Nat.le_refl _) (show ObjOk X.prog X.w _ _ _ (.lst (kvs.map (·.1))) from ⟨by rw [List.length_map]; exact z, acc'.toList, c', items_vals v1 hacc, ?_⟩), rfl, q _ (I.hok.fresh (Nat.le_refl _))⟩
  rw [Array.toArray_toList]
  exact hS
/-- d.values(), a view -/
def ValsO (p d : Addr) : HO := .ext fun h => h.IsValuesView p d
def tValO (te : TE) : TE := fun σ H Q => te σ H fun x H1 => ∃ a kvs, x = .ref a ∧ RD H1 a kvs ∧ ∀ p, H1 p = none → Q (.ref p) (upd H1 p (ValsO p a))
theorem pe_valO {o : Expr} {te : TE} {apos cpos : Pos} (ho : PE X o te) (hbase : attributeBase o "values" X.env (eval o X.env) = eval o X.env := by rfl) (hline : (apos.endLine == cpos.line) = true := by rfl) :
    PE X (.Call (.Attribute o "values" apos) [] [] cpos) (tValO te) := by
  refine ⟨fun pins s σ H Q I h => ?_⟩
  refine wpAny_Call_method0_late hbase hline (thn (ho.run pins s σ H _ I h) fun v s1 ⟨x, H1, I1, r1, a, kvs, ex, hk, q⟩ => ?_)
  subst ex
  cases (show v = Value.ref a from r1)
  obtain ⟨sy, z, es, ep, hm, v1, v2⟩ := raw_of I1 hk
  obtain ⟨ob, e1, e2, e3⟩ := id hm
  refine ⟨"dict", "dict.values", PySem.F.plainAttrs_dict, PySem.F.slot_dict_values, PySem.F.type_dict_values, ⟨ob, e1, e2.1⟩, fun b e => ?_, Calls.callWith_builtin rfl (PySem.evalArgs_none ?_)⟩
  · cases e
    exact ⟨ob, e1, e2.2.1⟩
  · refine call_meetsIn PySem.F.slot_dict_values ⟨ob, e1, e2.1⟩ PySem.F.entry_dict_values (PySem.F.args_dict_values_1 _) (meets_dict_values_raw a sy) ⟨⟨es, ep, hm⟩, ?_⟩
    have hf : H1 s1.heap.objs.size = none := I1.hok.fresh (Nat.le_refl _)
    have hv : (s1.heap.push { cls := .type "dict_values", data := .fields #[.ref a] }).IsValuesView s1.heap.objs.size a := ⟨_, Heap.get?_push_size _ rfl, rfl, rfl⟩
    refine ⟨.ref s1.heap.objs.size, upd H1 s1.heap.objs.size (ValsO s1.heap.objs.size a), I1.laid (t' := s1.toks) (fun b u e => Heap.get?_push_of_some _ e) (Nat.le_refl _) ⟨hv, ⟨_, Heap.get?_push_size _ rfl⟩, fun h1 h2 q k => ?_⟩, rfl, q _ hf⟩
    obtain ⟨o, g1, g2⟩ := q
    exact ⟨o, k o g1, g2⟩
/-- list(d.values()) -/
theorem call_listV (hc : X.calm = true) : CallR X (.type "list") (fun xs H Q => ∃ p a kvs, xs = [.ref p] ∧ H p = some (ValsO p a) ∧ RD H a kvs ∧ ∀ q, H q = none → Q (.ref q) (upd H q (.lst (kvs.map (·.2))))) := by
  intro pins s σ H xs us Q I r h
  obtain ⟨p, a, kvs, e, hp, hk, q⟩ := h
  subst e
  obtain ⟨u, eu, rx⟩ := vals1 r
  subst eu
  obtain rfl : u = Value.ref p := rx
  obtain ⟨sy, z, es, ep, hm, v1, v2⟩ := raw_of I hk
  have hv : s.heap.IsValuesView p a := (show ObjOk X.prog X.w H s.heap p (ValsO p a) from I.hok p _ hp).1
  have l : kvs.length = es.size := by
    have z := v2.length
    rw [List.length_map, List.length_map] at z
    exact z.trans Array.length_toList
  refine PySem.W.kdl_call (PySem.KdlSrc.rawValues (r := p) (d := a) (es := es) (ep := ep)) (I.ok.hd hc) ⟨hv, hm⟩ (by rw [← l]; exact z) fun h' tk acc' c' hkeep hS hacc => ?_
  refine ⟨.ref s.heap.objs.size, upd H s.heap.objs.size (.lst (kvs.map (·.2))), I.laid hkeep (Nat.le_refl _) (show ObjOk X.prog X.w _ _ _ (.lst (kvs.map (·.2))) from ⟨by rw [List.length_map]; exact z, acc'.toList, c', items_vals v2 hacc, ?_⟩), rfl, q _ (I.hok.fresh (Nat.le_refl _))⟩
  rw [Array.toArray_toList]
  exact hS
/-- isinstance(d, dict), where d is a dict, or anything else told -/
theorem call_isD (hb : PySem.W.kitOne X.K (.type "dict") (.type "dict") = some true) : CallR X (.builtin "isinstance") (fun xs H Q => ∃ x, xs = [x, .ty "dict"] ∧ ((∃ a kvs, x = .ref a ∧ RD H a kvs ∧ Q (.bl true) H) ∨ ∃ t, TyX X.K H x t ∧ PySem.W.kitOne X.K t (.type "dict") = some false ∧ Q (.bl false) H)) := by
  intro pins s σ H xs us Q I r h
  obtain ⟨x, rfl, h⟩ := h
  obtain ⟨u1, u2, rfl, r1, r2⟩ := vals2 r
  cases (show u2 = Value.type "dict" from r2)
  rcases h with ⟨a, kvs, rfl, hk, q⟩ | ⟨t, ty, e, q⟩
  · cases (show u1 = Value.ref a from r1)
    obtain ⟨sy, z, es, ep, ⟨ob, e1, e2, e3⟩, _⟩ := raw_of I hk
    exact PySem.W.kia_one PySem.W.kitx_dict I.kIn ⟨ob, e1, e2.1⟩ hb (fun z => nomatch z) fun tk => ⟨.bl true, H, I.tok tk, rfl, q⟩
  · obtain ⟨P, Z, p, hx⟩ := kit_of I r1 ty
    exact PySem.W.kia_one Z I.kIn p e hx fun tk => ⟨.bl false, H, I.tok tk, rfl, q⟩
end
end Od
namespace Od
open PySem L2 Lay Own PySem.Spec PyProof.Rows
theorem vals_app {xs ys : List V} {us ws : List Value} (h : Vals xs us) (g : Vals ys ws) : Vals (xs ++ ys) (us ++ ws) := by
  induction h with
  | nil => exact g
  | cons a _ ih => exact .cons a ih
theorem choose_list {α β : Type} : ∀ {l : List α} {R : Nat → α → β → Prop}, (∀ (j : Nat) (q : α), l[j]? = some q → ∃ y, R j q y) → ∃ ys : List β, ys.length = l.length ∧ ∀ (j : Nat) (q : α), l[j]? = some q → ∃ y, ys[j]? = some y ∧ R j q y
  | [], R, _ => ⟨[], rfl, fun j q e => by simp at e⟩
  | a :: l, R, h => by
    obtain ⟨y, hy⟩ := h 0 a rfl
    obtain ⟨ys, h1, h2⟩ := choose_list (l := l) (R := fun j => R (j + 1)) fun j q e => h (j + 1) q (by simpa using e)
    refine ⟨y :: ys, by rw [List.length_cons, List.length_cons, h1], fun j q e => ?_⟩
    cases j with
    | zero =>
      cases (show some a = some q from e)
      exact ⟨y, rfl, hy⟩
    | succ j =>
      obtain ⟨z, e1, e2⟩ := h2 j q (by simpa using e)
      exact ⟨z, by simpa using e1, e2⟩
section
variable {X : Cx} {pins : List (Addr × Obj)} {σ : L2.St} {H : Hp} {s : Shared}
/-- the pairs of such a list, in the heap -/
theorem pairs_at {l p : Addr} {ps : List Addr} {kvs : List (Key × V)} {k0 v0 : V} (I : Inv X pins σ H s) (hl : SqL X.K H l ((ps ++ [p]).map V.ref)) (hp : Paired (fun p kv => SqT X.K H p [kV kv.1, kv.2]) ps kvs) (hq : SqT X.K H p [k0, v0]) :
    ∃ (items : Array Value) (Ts : Nat → Addr) (qs : List (Value × Value)) (prs : List (Key × Value)) (k w : Value), PlainSeq "list" s.heap l items ∧ PairItems s.heap items Ts qs ∧ qs.length = prs.length + 1 ∧ KV kvs prs ∧ RelV k0 k ∧ RelV v0 w ∧ qs[prs.length]? = some (k, w) ∧ (prs.length ≤ sizeLine) ∧
      ∀ (i : Nat) (q : Key × Value), prs[i]? = some q → ∃ u, qs[i]? = some (u, q.2) ∧ keyIs q.1 u = true := by
  obtain ⟨its, rv, pl, hz⟩ := I.list hl
  have ei := refs_at rv
  subst ei
  obtain ⟨prs, rel, hlen, hpr⟩ := pairs_of I hp
  obtain ⟨its2, rv2, ht2, _⟩ := I.tuple hq
  obtain ⟨k, w, rfl, rk, rw2⟩ := vals2 rv2
  obtain ⟨qs, hqs, hat⟩ := choose_list (l := prs) (R := fun j q (y : Value × Value) => y.2 = q.2 ∧ keyIs q.1 y.1 = true ∧ ∃ b, ps[j]? = some b ∧ IsTup s.heap b #[y.1, y.2]) fun j q e => by
    obtain ⟨b, u, h1, h2, h3⟩ := hpr j q e
    exact ⟨(u, q.2), rfl, h3, b, h1, h2⟩
  obtain ⟨o, n, h1, h2, h3, h4⟩ := pl
  refine ⟨_, fun j => (ps ++ [p]).getD j 0, qs ++ [(k, w)], prs, k, w, ⟨o, n, h1, h2, h3, h4⟩, ⟨?_, fun j a b e => ?_⟩, ?_, rel, rk, rw2, ?_, ?_, fun i q e => ?_⟩
  · rw [List.size_toArray, List.length_map, List.length_append, List.length_append, hqs, hlen]
    rfl
  · by_cases c : j < qs.length
    · rw [List.getElem?_append_left c] at e
      obtain ⟨q, hq'⟩ : ∃ q, prs[j]? = some q := ⟨_, List.getElem?_eq_getElem (by omega)⟩
      obtain ⟨y, e1, e2, e3, b', e4, e5⟩ := hat j q hq'
      cases e1.symm.trans e
      have lj : j < ps.length := by omega
      have g : (ps ++ [p])[j]? = some b' := by rw [List.getElem?_append_left lj]; exact e4
      have gd : (ps ++ [p]).getD j 0 = b' := by
        rw [List.getD_eq_getElem?_getD, g]
        rfl
      refine ⟨?_, ?_⟩
      · rw [List.getElem?_toArray, List.getElem?_map, g]
        show some (Value.ref b') = some (Value.ref ((ps ++ [p]).getD j 0))
        rw [gd]
      · show PairAt s.heap ((ps ++ [p]).getD j 0) a b
        rw [gd]
        exact .inl e5
    · rw [List.getElem?_append_right (by omega)] at e
      have z : j - qs.length = 0 := by
        cases hk : j - qs.length with
        | zero => rfl
        | succ m => rw [hk] at e; simp at e
      rw [z] at e
      cases (show some (k, w) = some (a, b) from e)
      have ej : j = ps.length := by omega
      have g : (ps ++ [p])[j]? = some p := by rw [ej]; simp
      have gd : (ps ++ [p]).getD j 0 = p := by
        rw [List.getD_eq_getElem?_getD, g]
        rfl
      refine ⟨?_, ?_⟩
      · rw [List.getElem?_toArray, List.getElem?_map, g]
        show some (Value.ref p) = some (Value.ref ((ps ++ [p]).getD j 0))
        rw [gd]
      · show PairAt s.heap ((ps ++ [p]).getD j 0) k w
        rw [gd]
        exact .inl ht2
  · rw [List.length_append, hqs]
    rfl
  · rw [← hqs]
    simp
  · rw [List.length_map, List.length_append] at hz
    omega
  · obtain ⟨y, e1, e2, e3, _⟩ := hat i q e
    have lj : i < qs.length := (List.getElem?_eq_some_iff.mp e1).1
    refine ⟨y.1, ?_, e3⟩
    rw [List.getElem?_append_left lj, e1, ← e2]
/-- dict(l), l a list of pairs, the last one's key a tuple of a text -/
theorem call_dictO (hc : X.calm = true) (hu : X.A.units + 8 < cLine) : CallR X (.type "dict") (fun xs H Q => ∃ (l p t : Addr) (ps : List Addr) (kvs : List (Key × V)) (x : Str) (v : V), xs = [.ref l] ∧ SqL X.K H l ((ps ++ [p]).map V.ref) ∧ Paired (fun p kv => SqT X.K H p [kV kv.1, kv.2]) ps kvs ∧ SqT X.K H p [.ref t, v] ∧
    SqT X.K H t [.str x] ∧ PyData.strOk x = true ∧ (∀ kv ∈ kvs, ∃ z, kv.1 = Sum.inr z ∧ PyData.strOk z = true) ∧ (kvs.map (·.1)).Nodup ∧ kvs.length + 1 ≤ sizeLine ∧ ∀ q, H q = none → Q (.ref q) (upd H q (OddO q (kvs.map (fun p => (kV p.1, p.2)) ++ [(.ref t, v)])))) := by
  intro pins s σ H xs us Q I r h
  obtain ⟨l, p, t, ps, kvs, x, v, rfl, hl, hp, hq, ht, hx, hk, nd, hz, q⟩ := h
  obtain ⟨u, rfl, rx⟩ := vals1 r
  obtain rfl : u = Value.ref l := rx
  obtain ⟨items, Ts, qs, prs, k, w, pl, pi, hn, rel, rk, rw2, hlast, hsz, hat⟩ := pairs_at I hl hp hq
  obtain rfl : k = Value.ref t := rk
  obtain ⟨its, rv, tt, _⟩ := I.tuple ht
  obtain ⟨y, rfl, ry⟩ := vals1 rv
  obtain ⟨tok, rfl⟩ := ry
  have hkey : IsTupleKey (mixKind X.prog X.w) s.heap [Sum.inr x] t := by
    obtain ⟨o, h1, h2, n, h3⟩ := tt
    exact ⟨o, _, n, h1, h2, h3, .cons (keyIs_str x tok) .nil⟩
  have ek : kvs.map (·.1) = prs.map (·.1) := KV.keys rel
  have mg : merged [] prs = prs := merged_nil_of_nodup prs (by rw [← ek]; exact nd)
  have hk2 : ∀ p ∈ merged [] prs, ∃ z, p.1 = Sum.inr z ∧ PyData.strOk z = true := by
    rw [mg]
    intro p hp'
    have m : p.1 ∈ kvs.map (·.1) := by rw [ek]; exact List.mem_map.mpr ⟨p, hp', rfl⟩
    obtain ⟨kv, h1, h2⟩ := List.mem_map.mp m
    rw [← h2]
    exact hk kv h1
  refine od_dict (I.ok.hd hc) hu pl pi hn hat hlast hx hkey hk2 hsz fun h' tk es ep hs hr pr kp => ?_
  rw [mg] at pr
  obtain ⟨v1, v2⟩ := Rp.keys_vals pr rel
  have sy : (s.heap.objs.size == sysModules) = false := beq_eq_false_iff_ne.mpr (Nat.ne_of_gt I.big)
  have raw : RawDict h' s.heap.objs.size (kvs.map (fun p => (kV p.1, p.2)) ++ [(.ref t, v)]) := by
    refine ⟨sy, by rw [List.length_append, List.length_map]; exact hz, _, ep, hr, ?_, ?_⟩
    · rw [List.map_append, List.map_map, Array.toList_push, List.map_append]
      exact vals_app v1 (.cons rfl .nil)
    · rw [List.map_append, List.map_map, Array.toList_push, List.map_append]
      exact vals_app v2 (.cons rw2 .nil)
  exact ⟨.ref s.heap.objs.size, upd H s.heap.objs.size (OddO s.heap.objs.size (kvs.map (fun p => (kV p.1, p.2)) ++ [(.ref t, v)])), I.laid (t' := tk) kp (Nat.le_refl _) (odd_ok raw), rfl, q _ (I.hok.fresh (Nat.le_refl _))⟩
end
end Od
namespace Od
open PySem L2 Lay Own PySem.Spec PyProof.Rows
def leafOf : Key → Leaf
  | .inl i => .num i
  | .inr z => .text z
theorem leaf_is {k : Key} {u : Value} (h : keyIs k u = true) : Leaf.isOf (leafOf k) u = true := by
  rcases keyIs_shape h with ⟨i, t, rfl, rfl⟩ | ⟨x, t, rfl, rfl⟩
  · simp [leafOf, Leaf.isOf]
  · exact h
theorem leafOf_inj {a b : Key} (h : leafOf a = leafOf b) : a = b := by
  cases a <;> cases b <;> simp_all [leafOf]
section
variable {X : Cx} {pins : List (Addr × Obj)} {σ : L2.St} {H : Hp} {s : Shared}
theorem leaf_vals {P : Program} {w : World} : ∀ {es : List DictEntry} {vs : List (Key × Value)} {kvs : List (Key × V)} {u : Value} {v0 : V}, KV kvs vs → (∀ kv ∈ kvs, ∃ z, kv.1 = Sum.inr z) → RelV v0 u → Pairs (leafKind P w) es (vs.map (fun q => (leafOf q.1, q.2)) ++ [(Leaf.none, u)]) →
    Vals (kvs.map (fun p => kV p.1) ++ [.non]) (es.map (·.key)) ∧ Vals (kvs.map (·.2) ++ [v0]) (es.map (·.val))
  | es, [], [], u, v0, _, _, r, h => by
    cases h with
    | cons h1 h2 h3 =>
      cases h3
      rename_i e
      have h1 : Leaf.isOf .none e.key = true := h1
      have ek : e.key = Value.none := by
        cases hk : e.key <;> rw [hk] at h1 <;> first | rfl | exact absurd h1 Bool.false_ne_true
      refine ⟨.cons ek .nil, .cons ?_ .nil⟩
      show RelV v0 e.val
      rw [h2]
      exact r
  | es, (k, v) :: vs, (k', v') :: kvs, u, v0, .cons r rr, hk, ru, h => by
    cases h with
    | cons h1 h2 h3 =>
      rename_i e es
      obtain ⟨a, b⟩ := leaf_vals rr (fun kv m => hk kv (List.mem_cons_of_mem _ m)) ru h3
      obtain ⟨e1, r1⟩ := r
      have e1' : k' = k := e1
      subst e1'
      obtain ⟨z, ez⟩ := hk _ (List.mem_cons_self ..)
      have ez : k' = Sum.inr z := ez
      subst ez
      have h1 : Value.isStrOf z e.key = true := h1
      obtain ⟨t, q⟩ := Value.isStrOf_shape h1
      refine ⟨.cons ⟨t, q⟩ a, .cons ?_ b⟩
      show RelV v' e.val
      rw [h2]
      exact r1
/-- dict(l), l a list of pairs, the last one's key None -/
theorem call_dictN (hc : X.calm = true) : CallR X (.type "dict") (fun xs H Q => ∃ (l p : Addr) (ps : List Addr) (kvs : List (Key × V)) (v : V), xs = [.ref l] ∧ SqL X.K H l ((ps ++ [p]).map V.ref) ∧ Paired (fun p kv => SqT X.K H p [kV kv.1, kv.2]) ps kvs ∧ SqT X.K H p [.non, v] ∧
    (∀ kv ∈ kvs, ∃ z, kv.1 = Sum.inr z) ∧ (kvs.map (·.1)).Nodup ∧ kvs.length + 1 ≤ sizeLine ∧ ∀ q, H q = none → Q (.ref q) (upd H q (OddO q (kvs.map (fun p => (kV p.1, p.2)) ++ [(.non, v)])))) := by
  intro pins s σ H xs us Q I r h
  obtain ⟨l, p, ps, kvs, v, rfl, hl, hp, hq, hk, nd, hz, q⟩ := h
  obtain ⟨u, rfl, rx⟩ := vals1 r
  obtain rfl : u = Value.ref l := rx
  obtain ⟨items, Ts, qs, prs, k, w, pl, pi, hn, rel, rk, rw2, hlast, hsz, hat⟩ := pairs_at I hl hp hq
  obtain rfl : k = Value.none := rk
  have ek : kvs.map (·.1) = prs.map (·.1) := KV.keys rel
  have lk : kvs.length = prs.length := KV.length rel
  have nd2 : ((prs.map (fun q => (leafOf q.1, q.2)) ++ [(Leaf.none, w)]).map (·.1)).Nodup := by
    rw [List.map_append, List.map_map]
    refine List.nodup_append.mpr ⟨?_, by simp, fun a ha b hb e => ?_⟩
    · rw [ek] at nd
      have z : prs.map ((fun x => x.1) ∘ fun q => (leafOf q.1, q.2)) = (prs.map (·.1)).map leafOf := by rw [List.map_map]; rfl
      rw [z, List.nodup_iff_pairwise_ne, List.pairwise_map]
      exact List.Pairwise.imp (fun a e => a (leafOf_inj e)) nd
    · obtain ⟨q, hq1, rfl⟩ := List.mem_map.mp ha
      have hb : b = Leaf.none := by simpa using hb
      subst hb
      have e : leafOf q.1 = Leaf.none := e
      cases hq3 : q.1 <;> rw [hq3] at e <;> cases e
  have hv : PairsHave (leafKind X.prog X.w) qs.length (PairRel qs) (prs.map (fun q => (leafOf q.1, q.2)) ++ [(Leaf.none, w)]) := by
    refine ⟨by rw [List.length_append, List.length_map, hn]; rfl, fun i key val e => ?_⟩
    have e : qs[i]? = some (key, val) := e
    by_cases c : i < prs.length
    · obtain ⟨q', hq'⟩ : ∃ q', prs[i]? = some q' := ⟨_, List.getElem?_eq_getElem c⟩
      obtain ⟨u, e1, e2⟩ := hat i q' hq'
      cases e1.symm.trans e
      refine ⟨leafOf q'.1, ?_, leaf_is e2⟩
      rw [List.getElem?_append_left (by rw [List.length_map]; exact c), List.getElem?_map, hq']
      rfl
    · have li : i < qs.length := (List.getElem?_eq_some_iff.mp e).1
      have ei : i = prs.length := by omega
      subst ei
      cases hlast.symm.trans e
      refine ⟨Leaf.none, ?_, rfl⟩
      rw [List.getElem?_append_right (by rw [List.length_map]; exact Nat.le_refl _), List.length_map, Nat.sub_self]
      rfl
  refine _root_.PySem.call_dict_pairs (knd := leafKind X.prog X.w) (PairArg.list l items Ts qs) (I.ok.hd hc) ⟨pl, pi⟩ hv (by rw [hn, ← lk]; exact hz) fun h' tk hd' kp => ?_
  rw [merged_nil_of_nodup _ nd2] at hd'
  obtain ⟨o, es, ep, g1, g2, g3, g4, g5, g6⟩ := hd'
  obtain ⟨v1, v2⟩ := leaf_vals rel hk rw2 g5
  have sy : (s.heap.objs.size == sysModules) = false := beq_eq_false_iff_ne.mpr (Nat.ne_of_gt I.big)
  have raw : RawDict h' s.heap.objs.size (kvs.map (fun p => (kV p.1, p.2)) ++ [(.non, v)]) := by
    refine ⟨sy, by rw [List.length_append, List.length_map]; exact hz, es, ep, ⟨o, g1, g2, g3⟩, ?_, ?_⟩
    · rw [List.map_append, List.map_map]
      exact v1
    · rw [List.map_append, List.map_map]
      exact v2
  exact ⟨.ref s.heap.objs.size, upd H s.heap.objs.size (OddO s.heap.objs.size (kvs.map (fun p => (kV p.1, p.2)) ++ [(.non, v)])), I.laid (t' := tk) (fun b o e => kp b o (by simp) e) (Nat.le_refl _) (odd_ok raw), rfl, q _ (I.hok.fresh (Nat.le_refl _))⟩
end
end Od
namespace Od
open PySem L2 Lay Own PySem.Spec PyProof.Rows Gs
/-- len(s), s a set of texts -/
theorem call_lenGS {X : Cx} : CallR X (.builtin "len") (fun xs H Q => ∃ (a : Addr) (L : List Str), xs = [.ref a] ∧ H a = some (.ext fun h => GS (PySem.strKind X.prog X.w) h a L) ∧ L.length < 60 ∧ ∀ ks : List Str, ks.Nodup → (∀ k, k ∈ ks ↔ k ∈ L) → Q (.int ((ks.length : Nat) : Int)) H) := by
  intro pins s σ H xs us Q I r h
  obtain ⟨a, L, rfl, ha, hl, q⟩ := h
  obtain ⟨u, rfl, ru⟩ := vals1 r
  obtain rfl : u = Value.ref a := ru
  obtain ⟨o, es, ep, t, ks, ho, hex, hd, al, nd, hm, hle, hsz, hf, _⟩ : GS (PySem.strKind X.prog X.w) s.heap a L := (I.hok a _ ha).1
  have e : es.size = ks.length := by
    have z := al.len
    rwa [show es.toList.length = es.size from Array.length_toList] at z
  refine call_len_set ho hex hd hf (by omega) ?_
  exact ⟨.int _, H, I.tok _, ⟨_, by rw [e]⟩, q ks nd hm⟩
end Od
namespace PySem
/-! ### x in d.values(), texts -/
theorem od_plain_in : plainId "proto.contains_iter" = true := by decide +kernel
theorem od_entry_in : entryFor table "proto.contains_iter" = some Builtin.«proto.contains_iter» := entryFor_of_fast (by kernel_rfl)
theorem od_values_no_in : typeLookup (.type "dict_values") "__contains__" = pure none := am_miss_of_fast (by decide +kernel)
section
variable {prog : Program} {w : World} {A : Around} {E : Value → Shared → Prop} {s : Shared} {v d : Addr} {es : Array DictEntry} {ep : Nat}
/-- the walk over what stands from place i on -/
theorem od_in_loop {I : Addr} {x : Value} {St : Nat → Heap → Prop} {R : Result → Shared → Prop} (b : Nat → Bool) (W : Walks prog w A.in1 I [I, d] [I] es.size (fun i u => ∃ hi : i < es.size, u = es[i].val) St)
    (he : ∀ (i : Nat) (hi : i < es.size) (s' : Shared), SeqAt.EqAt A.in1 s' es[i].val x (b i)) {h0 : Heap} (hR : ∀ h' tk, (∀ c o, c ≠ I → h0.get? c = some o → h'.get? c = some o) → R (.ok (.ret (.bool ((List.range es.size).any b)))) { s with heap := h', toks := tk }) :
    ∀ (k i : Nat) (h : Heap) (tk : Tok), es.size - i = k → i ≤ es.size → St i h → (∀ j, j < i → b j = false) → (∀ c o, c ≠ I → h0.get? c = some o → h.get? c = some o) →
      codeAny (model prog w) A (.builtin "proto.contains_iter" ⟨[.ref I, x], []⟩) R { s with heap := h, toks := tk } := by
  intro k
  induction k with
  | zero =>
    intro i h tk hn hi st no hk
    have e : i = es.size := by omega
    subst e
    refine codeAny_builtin od_entry_in ?_
    rw [Around.under_plainId od_plain_in _]
    show wpAny _ A.in1 (pyNext (.ref I) >>= _) _ _ _
    refine wpAny_bind (W.done { s with heap := h, toks := tk } _ _ st fun h' tk' hk' => ?_)
    refine wpAny_bind (wpAny_rule (wpAny_pure ?_))
    have z : (List.range es.size).any b = false := by
      rw [List.any_eq_false]
      intro j hj
      rw [no j (List.mem_range.mp hj)]
      exact Bool.false_ne_true
    rw [← z]
    exact hR h' tk' fun c o hc e => hk' c o (by simpa using hc) (hk c o hc e)
  | succ k ih =>
    intro i h tk hn hi st no hk
    have hlt : i < es.size := by omega
    refine codeAny_builtin od_entry_in ?_
    rw [Around.under_plainId od_plain_in _]
    show wpAny _ A.in1 (pyNext (.ref I) >>= _) _ _ _
    refine wpAny_bind (W.item i { s with heap := h, toks := tk } _ _ hlt st fun u h' tk' hu st' hk' => ?_)
    obtain ⟨_, rfl⟩ := hu
    have keep : ∀ c o, c ≠ I → h0.get? c = some o → h'.get? c = some o := fun c o hc e => hk' c o (by simpa using hc) (hk c o hc e)
    refine wpAny_bind (he i hlt _ _ _ _ _ ?_)
    cases hb : b i with
    | true =>
      rw [if_pos rfl]
      refine wpAny_bind (wpAny_rule (wpAny_pure ?_))
      have z : (List.range es.size).any b = true := List.any_eq_true.mpr ⟨i, List.mem_range.mpr hlt, hb⟩
      rw [← z]
      exact hR h' tk' keep
    | false =>
      rw [if_neg (by simp)]
      refine wpAny_pure ⟨plainId_quiet od_plain_in _, ih (i + 1) h' tk' (by omega) hlt st' (fun j hj => ?_) keep⟩
      rcases Nat.lt_or_ge j i with q | q
      · exact no j q
      · rw [show j = i by omega]
        exact hb
theorem od_notin {x : Value} {Q : Value → Shared → Prop} (b : Nat → Bool) (hh : A.handled = none) (hv : s.heap.IsValuesView v d) (hm : s.heap.DictRaw d es ep) (hx : ∀ c, x ≠ .builtin c) (he : ∀ (i : Nat) (hi : i < es.size) (s' : Shared), SeqAt.EqAt A.in1 s' es[i].val x (b i))
    (hQ : ∀ h' tk, (∀ c o, s.heap.get? c = some o → h'.get? c = some o) → Q (.bool (!(List.range es.size).any b)) { s with heap := h', toks := tk }) : wpAny (model prog w) A (compareOp .NotIn x (.ref v)) Q E s := by
  have dlt := hm.lt_size
  show wpAny _ _ (contains (.ref v) x >>= _) _ _ _
  refine wpAny_bind ?_
  unfold contains
  refine wpAny_holding ?_
  simp only [stdlibNamesSay?]
  refine wpAny_bind (wpAny_specialOf hv.typeIs od_values_no_in ?_)
  rw [if_neg (by simp)]
  refine wpAny_bind (m := callSpecialUnlessNone? (.ref v) (Str.ofString "__contains__") [x] _) ?_
  unfold callSpecialUnlessNone?
  refine wpAny_bind (wpAny_specialOf hv.typeIs od_values_no_in (wpAny_pure ?_))
  dsimp only
  refine wpAny_bind (wpAny_rule ?_)
  refine wpAny_bind (wpAny_tryCatch (wpAny_pyIter_values_raw hv hm ?_))
  have hI : (s.heap.push { cls := .type "dict_valueiterator", data := .fields #[.ref d, .int 0 0, .int es.size 0, .int ep 0] }).IsValIter s.heap.objs.size d 0 es.size ep := ⟨_, Heap.get?_push_size _ rfl, rfl, rfl⟩
  refine wpAny_bind (wpAny_runValue (od_in_loop (s := s) (h0 := s.heap.push { cls := .type "dict_valueiterator", data := .fields #[.ref d, .int 0 0, .int es.size 0, .int ep 0] }) b (Walks.rawValues (by simpa using hh) s.heap.objs.size d (Nat.ne_of_lt dlt) es ep) he
    (fun h' tk hk => ?_) es.size 0 _ _ (Nat.sub_zero _) (Nat.zero_le _) ⟨hI, hm.push _⟩ (fun j hj => absurd hj (Nat.not_lt_zero _)) (fun c o _ e => e)))
  refine wpAny_pure (wpAny_pure ?_)
  exact hQ h' tk fun c o e => hk c o (Nat.ne_of_lt (Heap.lt_size e)) (Heap.get?_push_of_some _ e)
end
end PySem
namespace Od
open PySem L2 Lay Own PySem.Spec PyProof.Rows
theorem gd_at {l : List Str} {i : Nat} {d : Str} (h : i < l.length) : l.getD i d = l[i] := by simp [List.getD, h]
/-- z not in d.values(), texts -/
def rNotV : R2 := fun x y H Q => ∃ (p a : Addr) (ms : List (Str × Str)) (z : Str), x = .str z ∧ y = .ref p ∧ H p = some (ValsO p a) ∧ RD H a (ms.map fun q => (V.str q.1, V.str q.2)) ∧ PyData.strOk z = true ∧ (∀ q ∈ ms, PyData.strOk q.2 = true) ∧ Q (.bl (decide (z ∉ ms.map (·.2)))) H
theorem op_notV {X : Cx} (hc : X.calm = true) (hu : X.A.units + 8 < cLine) : OpR X (compareOp .NotIn) rNotV := by
  intro pins s σ H x y v u Q I rx ry h
  obtain ⟨p, a, ms, z, rfl, rfl, hp, hk, oz, oq, q⟩ := h
  obtain ⟨t, rfl⟩ := rx
  cases (show u = Value.ref p from ry)
  obtain ⟨sy, l, es, ep, hm, v1, v2⟩ := raw_of I hk
  have hv : s.heap.IsValuesView p a := (show ObjOk X.prog X.w H s.heap p (ValsO p a) from I.hok p _ hp).1
  have le : es.size = ms.length := by
    have z := v2.length
    rw [List.length_map, List.length_map, List.length_map] at z
    exact (z.trans Array.length_toList).symm
  have val : ∀ (i : Nat) (hi : i < es.size), ∃ tk, es[i].val = .str ((ms.map (·.2)).getD i Str.empty) tk := by
    intro i hi
    have hi2 : i < ms.length := by omega
    obtain ⟨u, hu', r⟩ := v2.get (i := i) (x := .str ms[i].2) (by simp [List.getElem?_eq_getElem hi2])
    have h4 : (es.toList.map (·.val))[i]? = some es[i].val := by
      rw [List.getElem?_map, Array.getElem?_toList, Array.getElem?_eq_getElem hi]
      rfl
    rw [h4] at hu'
    cases hu'
    obtain ⟨tk, e⟩ := r
    exact ⟨tk, by rw [e, gd_at (by rw [List.length_map]; exact hi2), List.getElem_map]⟩
  have key : ((List.range es.size).any fun i => PyData.eqv (.str ((ms.map (·.2)).getD i Str.empty)) (.str z)) = decide (z ∈ ms.map (·.2)) := by
    rw [Bool.eq_iff_iff, List.any_eq_true, decide_eq_true_iff]
    constructor
    · rintro ⟨i, hi, e⟩
      have hi := List.mem_range.mp hi
      have e : ((ms.map (·.2)).getD i Str.empty) = z := by simpa [PyData.eqv] using e
      rw [← e]
      have hl : i < (ms.map (·.2)).length := by rw [List.length_map]; omega
      rw [gd_at hl]
      exact List.getElem_mem hl
    · intro hz
      obtain ⟨i, hi, e⟩ := List.getElem_of_mem hz
      refine ⟨i, List.mem_range.mpr (by rw [List.length_map] at hi; omega), ?_⟩
      rw [gd_at hi, e]
      simp [PyData.eqv]
  refine od_notin (fun i => PyData.eqv (.str ((ms.map (·.2)).getD i Str.empty)) (.str z)) (I.ok.hd hc) hv hm (fun c e => by cases e) (fun i hi s' => ?_) fun h' tk kp => ?_
  · obtain ⟨tk, e⟩ := val i hi
    rw [e]
    have hl : i < (ms.map (·.2)).length := by rw [List.length_map]; omega
    refine SeqAt.eqAt_reads (.str _) (.str z) _ _ _ _ _ _ (.str _ tk) (.str z t) ?_ oz (by simp only [PyData.depth]; have : X.A.in1.units = X.A.units + 1 := rfl; omega)
    rw [gd_at hl]
    obtain ⟨q, hq, eq⟩ := List.mem_map.mp (List.getElem_mem hl)
    rw [← eq]
    exact oq q hq
  · rw [key]
    refine ⟨.bl _, H, I.kept (t' := tk) kp, rfl, ?_⟩
    rw [show (!decide (z ∈ ms.map (·.2))) = decide (z ∉ ms.map (·.2)) by simp]
    exact q
end Od
namespace Od
open PySem L2 Lay Own PySem.Spec PyProof.Rows
def rDP (K : PySem.W.Frag) : List V → Hp → VK → Prop := fun xs H Q => ∃ (a : Addr) (ps : List Addr) (kvs : List (Key × V)), xs = [.ref a] ∧ SqL K H a (ps.map V.ref) ∧ Paired (fun p kv => SqT K H p [kV kv.1, kv.2]) ps kvs ∧ ∀ p, H p = none → Q (.ref p) (upd H p (.dK (mergeK [] kvs)))
def rDO (K : PySem.W.Frag) : List V → Hp → VK → Prop := fun xs H Q => ∃ (l p t : Addr) (ps : List Addr) (kvs : List (Key × V)) (x : Str) (v : V), xs = [.ref l] ∧ SqL K H l ((ps ++ [p]).map V.ref) ∧ Paired (fun p kv => SqT K H p [kV kv.1, kv.2]) ps kvs ∧ SqT K H p [.ref t, v] ∧
    SqT K H t [.str x] ∧ PyData.strOk x = true ∧ (∀ kv ∈ kvs, ∃ z, kv.1 = Sum.inr z ∧ PyData.strOk z = true) ∧ (kvs.map (·.1)).Nodup ∧ kvs.length + 1 ≤ sizeLine ∧ ∀ q, H q = none → Q (.ref q) (upd H q (OddO q (kvs.map (fun p => (kV p.1, p.2)) ++ [(.ref t, v)])))
def rDN (K : PySem.W.Frag) : List V → Hp → VK → Prop := fun xs H Q => ∃ (l p : Addr) (ps : List Addr) (kvs : List (Key × V)) (v : V), xs = [.ref l] ∧ SqL K H l ((ps ++ [p]).map V.ref) ∧ Paired (fun p kv => SqT K H p [kV kv.1, kv.2]) ps kvs ∧ SqT K H p [.non, v] ∧
    (∀ kv ∈ kvs, ∃ z, kv.1 = Sum.inr z) ∧ (kvs.map (·.1)).Nodup ∧ kvs.length + 1 ≤ sizeLine ∧ ∀ q, H q = none → Q (.ref q) (upd H q (OddO q (kvs.map (fun p => (kV p.1, p.2)) ++ [(.non, v)])))
/-- dict(l), l a list of pairs: the last one's key may be odd -/
theorem call_dictA {X : Cx} (hc : X.calm = true) (hu : X.A.units + 8 < cLine) : CallR X (.type "dict") (fun xs H Q => rDP X.K xs H Q ∨ rDO X.K xs H Q ∨ rDN X.K xs H Q) := by
  intro pins s σ H xs us Q I r h
  rcases h with h | h | h
  · exact call_dictP hc pins s σ H xs us Q I r h
  · exact call_dictO hc hu pins s σ H xs us Q I r h
  · exact call_dictN hc pins s σ H xs us Q I r h
end Od

set_option Elab.async false
set_option linter.all false
set_option maxRecDepth 100000
set_option maxHeartbeats 4000000
namespace K12
open PySem L2 Lay Own SrtO Od
local macro_rules | `(tactic| walk_at "ne") => `(tactic| first | assumption | (apply Ne.symm; assumption) | exact ne_of_none (by walk_at "look") (by assumption) | exact (ne_of_none (by walk_at "look") (by assumption)).symm)
local macro_rules | `(tactic| walk_at "look") => `(tactic| first | assumption | exact upd_same | (refine Eq.trans (upd_ne ?_) ?_; walk_at "ne"; walk_at "look"))
local macro_rules | `(tactic| walk_at "rds") => `(tactic| first | rfl | assumption | walk_at "look" | exact SqL.of (by walk_at "look") | exact SqT.of (by walk_at "look") | exact Or.inl (SqL.of (by walk_at "look")) | exact Or.inl (by assumption) | decide | omega | exact Nat.le_of_ble_eq_true rfl | exact Or.inr ⟨by decide, by decide⟩ | exact Or.inl ⟨by omega, by omega⟩ | exact ⟨by decide, by decide⟩)
local macro_rules | `(tactic| walk_at "rd1") => `(tactic| first | (apply Exists.intro) | (refine And.intro ?_ ?_; walk_at "rds") | (refine Or.inl ?_; apply Exists.intro; refine And.intro ?_ ?_; rfl))
local macro_rules | `(tactic| walk_at "rd") => `(tactic| repeat walk_at "rd1")
section
variable {P : Program} {w : World} {K : PySem.W.Frag} {mg : Str → Option Value} {base : Heap}
/-! is_renaming -/
def renB (kvs : List (V × V)) : Bool := ((kvs.map (·.1) ++ kvs.map (·.2)).map nB).all id && decide (kvs.map (·.2)).Nodup
def spRen (K : PySem.W.Frag) : Sp := fun vs H Q _ => ∃ x, vs = [x] ∧ ((∃ t, TyX K H x t ∧ PySem.W.kitOne K t (.type "dict") = some false ∧ ∀ H', L2.Same H H' → Q (.bl false) H') ∨
  ∃ a kvs, x = .ref a ∧ RD H a kvs ∧ kvs.length ≤ 30 ∧ (∀ p ∈ kvs, It K H p.1 ∧ It K H p.2) ∧ ∀ H', L2.Same H H' → Q (.bl (renB kvs)) H')
theorem nB_str {x : V} (h : nB x = true) : ∃ z, x = .str z := by
  cases x with
  | str z => exact ⟨z, rfl⟩
  | _ => cases h
theorem map_of {α : Type} {us : List V} {zs : List α} {f : α → V} (hl : us.length = zs.length) (h : ∀ (i : Nat) (y : V), us[i]? = some y → ∃ x, zs[i]? = some x ∧ y = f x) : us = zs.map f := by
  apply List.ext_getElem?
  intro i
  rw [List.getElem?_map]
  cases hu : us[i]? with
  | none =>
    have := List.getElem?_eq_none_iff.mp hu
    rw [List.getElem?_eq_none (by omega)]
    rfl
  | some y =>
    obtain ⟨x, hx, rfl⟩ := h i y hu
    rw [hx]
    rfl
theorem all_strs : ∀ {xs : List V}, (xs.map nB).all id = true → ∃ ss : List Str, xs = ss.map V.str
  | [], _ => ⟨[], rfl⟩
  | x :: xs, h => by
    rw [List.map_cons, List.all_cons, Bool.and_eq_true] at h
    obtain ⟨z, rfl⟩ := nB_str h.1
    obtain ⟨ss, rfl⟩ := all_strs h.2
    exact ⟨z :: ss, rfl⟩
theorem nodup_strs {ss : List Str} : (ss.map V.str).Nodup ↔ ss.Nodup := by
  rw [List.nodup_iff_pairwise_ne, List.pairwise_map, List.nodup_iff_pairwise_ne]
  constructor
  · exact List.Pairwise.imp fun a e => a (by rw [e])
  · exact List.Pairwise.imp fun a e => a (V.str.inj e)
theorem nodup_len {ks ss : List Str} (nd : ks.Nodup) (h : ∀ k, k ∈ ks ↔ k ∈ ss) : decide (((ks.length : Nat) : Int) = ((ss.length : Nat) : Int)) = decide ss.Nodup := by
  by_cases c : ss.Nodup
  · rw [decide_eq_true c]
    exact decide_eq_true (by rw [((List.perm_ext_iff_of_nodup nd c).mpr h).length_eq])
  · rw [decide_eq_false c]
    refine decide_eq_false fun e => c ?_
    have p := perm_sub nd (fun x hx => (h x).mp hx) (by omega)
    exact p.nodup_iff.mp nd
theorem d_ren (T : Txt K mg) : Df P w K mg base 2 "is_renaming" ["value"] (spRen K) := by
  have D_is_name := d_is_name (P := P) (w := w) (base := base) T
  refine T.S_is_renaming.by sc_is_renaming (fun vs H Q E h => ?_) (fun f cdv A outer s H vs Q E hr hgd h => ?_)
  · obtain ⟨x, rfl, _⟩ := h; rfl
  · obtain ⟨x, rfl, h⟩ := h
    refine ⟨_, (pss_cons (ps_if (pt_not (pt_val (pe_callB  (call_isD (kit_ty (by decide +kernel))) (by rfl) T.n_isinstance (by decide +kernel) (pa_cons (pv 0) (pa_cons (pe_bltn (v := .ty "dict") (u := .type "dict") (by rfl) T.n_dict (by decide +kernel) rfl) pa_nil))))) (pss_one (ps_ret pe_bl)) pss_nil)
      (pss_cons (ps_set (i := 1) sc_is_renaming.nd rfl (by first | exact Or.inl rfl | exact Or.inr rfl) (pe_callTy  (call_listV rfl) (by rfl) T.n_list (by decide +kernel) (pa_cons (pe_valO (pv 0)) pa_nil)))
      (pss_one (ps_ret (pe_and (pe_callB (cr_all rfl) (by rfl) T.n_all (by decide +kernel) (pa_cons (pe_lc (own := [("name", 2)]) rfl sc_is_renaming.nd (pi_list (pe_op op_cat (pe_callTy (call_listO rfl) (by rfl) T.n_list (by decide +kernel) (pa_cons (pv 0) pa_nil)) (pv 1))) (blkOk_by (own := [("name", 2)]) (N := ["value", "new", "name"]) (sc := defScope s_is_renaming) (by decide +kernel)) (fun _ _ _ _ _ => (pg_name (i := 2) sc_is_renaming.nd rfl (by first | exact Or.inl rfl | exact Or.inr rfl))) (fun _ _ _ _ _ => pts_nil) (fun _ _ _ _ _ => (pe_own D_is_name (hr.mono (by first | decide | omega)) hgd (pa_cons (pv 2) pa_nil)))) pa_nil)) (pe_one (pe_cmpR op_eq (pe_callB  call_lenGS (by rfl) T.n_len PySem.boot_len (pa_cons (pe_callTy (Gs.cr_setS rfl) (by rfl) T.n_set (by decide +kernel) (pa_cons (pv 1) pa_nil)) pa_nil)) (pe_callB call_len_seq (by rfl) T.n_len PySem.boot_len (pa_cons (pv 1) pa_nil)) (nomark _)))))))), ?_⟩
    rcases h with ⟨t, ty, kt, k⟩ | ⟨a, kvs, rfl, rd, l1, it, k⟩
    · refine ⟨_, rfl, x, rfl, .inr ⟨t, ty, kt, ?_⟩⟩
      exact ⟨_, rfl, iteT (k _ (Same.refl _))⟩
    · refine ⟨_, rfl, _, rfl, .inl ⟨a, kvs, rfl, rd, ?_⟩⟩
      refine ⟨_, rfl, iteF ?_⟩
      refine ⟨_, rfl, a, kvs, rfl, rd, fun pv npv => ?_⟩
      have s1 := Same.new (o := ValsO pv a) npv
      refine ⟨pv, a, kvs, rfl, upd_same, rd.same s1, fun q nq => ?_⟩
      have s2 := s1.trans (Same.new (o := .lst (kvs.map (·.2))) nq)
      have hq : (upd (upd H pv (ValsO pv a)) q (.lst (kvs.map (·.2)))) q = some (.lst (kvs.map (·.2))) := upd_same
      generalize upd (upd H pv (ValsO pv a)) q (.lst (kvs.map (·.2))) = H2 at s2 hq
      refine ⟨_, rfl, a, kvs, rfl, rd.same s2, fun q2 nq2 => ?_⟩
      have s3 := s2.trans (Same.new (o := .lst (kvs.map (·.1))) nq2)
      refine ⟨_, rfl, q2, q, kvs.map (·.1), kvs.map (·.2), rfl, rfl, upd_same, Same.new nq2 _ _ hq, Nat.le_trans (m := 60) (by rw [List.length_map, List.length_map]; omega) (by decide), fun q3 nq3 => ?_⟩
      have s4 := s3.trans (Same.new (o := .lst (kvs.map (·.1) ++ kvs.map (·.2))) nq3)
      have hq4 := Same.new (o := .lst (kvs.map (·.1) ++ kvs.map (·.2))) nq3 _ _ (Same.new (o := .lst (kvs.map (·.1))) nq2 _ _ hq)
      obtain ⟨zs, ezs⟩ : ∃ zs, kvs.map (·.1) ++ kvs.map (·.2) = zs := ⟨_, rfl⟩
      have lz : zs.length ≤ 60 := by rw [← ezs, List.length_append, List.length_map, List.length_map]; omega
      have iz : ∀ x ∈ zs, It K H x := by
        rw [← ezs]
        intro x hx
        rcases List.mem_append.mp hx with hx | hx
        · obtain ⟨p, hp, rfl⟩ := List.mem_map.mp hx
          exact (it p hp).1
        · obtain ⟨p, hp, rfl⟩ := List.mem_map.mp hx
          exact (it p hp).2
      have h3 : (upd (upd H2 q2 (.lst (kvs.map (·.1)))) q3 (.lst (kvs.map (·.1) ++ kvs.map (·.2)))) q3 = some (.lst (kvs.map (·.1) ++ kvs.map (·.2))) := upd_same
      generalize upd (upd H2 q2 (.lst (kvs.map (·.1)))) q3 (.lst (kvs.map (·.1) ++ kvs.map (·.2))) = H4 at s4 hq4 h3
      rw [ezs] at h3
      refine ⟨q3, rfl, ⟨zs, SqL.of h3⟩, fun D nD => ?_⟩
      refine lc_pure (walk_list (xs := zs)) nD (by omega) (fun _ sm => SqL.of (sm _ _ h3)) (fun i y => ∃ x, zs[i]? = some x ∧ y = .bl (nB x)) (fun i x H5 H6 Kn Z hi sm y q => ?_) (fun H5 us sm hD hl hr' => ?_)
      · obtain ⟨rfl, hx⟩ := y
        refine ⟨rfl, _, rfl, x, rfl, (iz x (List.mem_of_getElem? hx)).same (s4.trans sm), fun H7 s7 => ?_⟩
        exact q _ _ s7 ⟨x, hx, rfl⟩
      · obtain rfl := map_of (f := fun x => V.bl (nB x)) hl hr'
        refine ⟨D, zs.map nB, rfl, SqL.of (by rw [List.map_map]; exact hD), ?_⟩
        have s5 := s4.trans sm
        refine ⟨_, rfl, ?_⟩
        have er : renB kvs = ((zs.map nB).all id && decide (kvs.map (·.2)).Nodup) := by
          unfold renB
          rw [ezs]
        cases hb : (zs.map nB).all id with
        | false =>
          rw [hb, Bool.false_and] at er
          rw [er] at k
          exact iteF (k _ s5)
        | true =>
          rw [hb, Bool.true_and] at er
          rw [er] at k
          refine iteT ?_
          have hb2 : ((kvs.map (·.2)).map nB).all id = true := by
            rw [← ezs, List.map_append, List.all_append, Bool.and_eq_true] at hb
            exact hb.2
          obtain ⟨ss, ess⟩ := all_strs hb2
          have hq5 := sm _ _ hq4
          rw [ess] at hq5 k
          have lss : ss.length ≤ 30 := by
            have z := congrArg List.length ess
            rw [List.length_map, List.length_map] at z
            omega
          refine ⟨_, rfl, q, ss, rfl, SqL.of hq5, by omega, fun p' L np hm hL => ?_⟩
          have s6 := Same.new (o := .ext fun h => Gs.GS (PySem.strKind P w) h p' L) np
          refine ⟨p', L, rfl, upd_same, by omega, fun ks nd hk => ?_⟩
          refine ⟨_, rfl, q, _, rfl, .inl (SqL.of (s6 _ _ hq5)), rfl, ?_⟩
          rw [decV, List.length_map, nodup_len nd fun x => (hk x).trans (hm x)]
          have z := k _ (s5.trans s6)
          rw [show decide (ss.map V.str).Nodup = decide ss.Nodup from decide_eq_decide.mpr nodup_strs] at z
          exact z
end
end K12

set_option Elab.async false
set_option linter.all false
set_option maxRecDepth 100000
set_option maxHeartbeats 4000000
namespace K12
open PySem L2 Lay Own SrtO Od
local macro_rules | `(tactic| walk_at "ne") => `(tactic| first | assumption | (apply Ne.symm; assumption) | exact ne_of_none (by walk_at "look") (by assumption) | exact (ne_of_none (by walk_at "look") (by assumption)).symm)
local macro_rules | `(tactic| walk_at "look") => `(tactic| first | assumption | exact upd_same | (refine Eq.trans (upd_ne ?_) ?_; walk_at "ne"; walk_at "look"))
local macro_rules | `(tactic| walk_at "rds") => `(tactic| first | rfl | assumption | walk_at "look" | exact SqL.of (by walk_at "look") | exact SqT.of (by walk_at "look") | exact Or.inl (SqL.of (by walk_at "look")) | exact Or.inl (by assumption) | decide | omega | exact Nat.le_of_ble_eq_true rfl | exact Or.inr ⟨by decide, by decide⟩ | exact Or.inl ⟨by omega, by omega⟩ | exact ⟨by decide, by decide⟩)
local macro_rules | `(tactic| walk_at "rd1") => `(tactic| first | (apply Exists.intro) | (refine And.intro ?_ ?_; walk_at "rds") | (refine Or.inl ?_; apply Exists.intro; refine And.intro ?_ ?_; rfl))
local macro_rules | `(tactic| walk_at "rd") => `(tactic| repeat walk_at "rd1")
section
variable {P : Program} {w : World} {K : PySem.W.Frag} {mg : Str → Option Value} {base : Heap}
/-! methods that raise -/
def MDfX (P : Program) (w : World) (K : PySem.W.Frag) (mg : Str → Option Value) (base : Heap) (k : Nat) (g : Addr) (ps : List Str) (sp : Sp) : Prop := ∃ fd, Rx.FnGX P w K mg base k g fd ps sp ∧ Binds K fd ps [] ∧ Kw1 fd ps ∧ Rx.Kw2 fd ps
theorem MDfX.fp {k : Nat} {g : Addr} {ps : List Str} {sp : Sp} (D : MDfX P w K mg base k g ps sp) : Rx.FnPX P w K mg base k g sp := by
  obtain ⟨fd, F, b, _⟩ := D
  exact .ofG F b
theorem Ms.byX {m qual : Str} {st : Stmt} {g : Addr} {ps N : List Str} {k : Nat} {sp : Sp} (S : Ms K m qual st g ps) (sc : FnScope N ps (defScope st)) (len : ∀ vs H Q E, sp vs H Q E → vs.length = ps.length)
    (hbody : ∀ (f : Addr) (cdv : Value) (A : Around) (outer : List Env) (s : Shared) (H : Hp) (vs : List V) (Q : VK) (E : XK), Room k (A.deeper (PyProof.Rows.envOfC qual (defScope st) s.heap.objs.size f cdv)) → A.guards = some [] → sp vs H Q E →
      ∃ t, PSs (cxOf (L2.CX P w) P w K mg base N qual (defScope st) f cdv A outer s H E) (defBody st) t ∧ t { nx := fun _ H' => Q .non H', rt := Q } (L2.start N vs) H) : MDfX P w K mg base (k + 1) g ps sp := by
  obtain ⟨fd, F, b⟩ := S
  exact ⟨fd, Rx.okGX F sc len (hbody g), b⟩
/-! renamed -/
theorem fr_same {H H1 : Hp} (s : L2.Same H H1) : ∀ a, H1 a = none → Fr0 H a := fun a n o e => by
  rw [s _ _ e] at n
  cases n
def ErrV (K : PySem.W.Frag) (H : Hp) (E : XK) (x : V) : Prop := ∀ d H', L2.Same H H' → H' d = some (exd d [("value", x)]) → E (.ref (He.ga K "InvalidRenaming")) (some d) H'
/-- a dict of names -/
def nmK (ms : List (Str × Str)) : List (Key × V) := ms.map fun p => (Sum.inr p.1, .str p.2)
def look (ms : List (Str × Str)) (z : Str) : Option Str := (ms.find? fun p => decide (p.1 = z)).map (·.2)
def ren (ms : List (Str × Str)) (e : Ent) : Ent := (e.1, e.2.1, (look ms e.2.2).getD e.2.2)
theorem valV_nm {ms : List (Str × Str)} {z : Str} : valV (nmK ms) (.inr z) = (look ms z).map V.str := by
  unfold valV look nmK
  induction ms with
  | nil => rfl
  | cons p ms ih =>
    rw [List.map_cons, List.find?_cons, List.find?_cons]
    have e : decide ((Sum.inr p.1 : Key) = Sum.inr z) = decide (p.1 = z) := by
      by_cases c : p.1 = z
      · rw [c]; simp
      · rw [decide_eq_false c]; exact decide_eq_false fun q => c (Sum.inr.inj q)
    rw [e]
    cases decide (p.1 = z) with
    | true => rfl
    | false => exact ih
structure MsOk (ms : List (Str × Str)) : Prop where
  k : ∀ p ∈ ms, Wd p.1 ∧ Wd p.2
  nd : (ms.map (·.1)).Nodup
  vd : (ms.map (·.2)).Nodup
  l : ms.length ≤ 13
/-- no dict -/
inductive NoD (H : Hp) : V → Prop where
  | non : NoD H .non
  | int (i : Int) : NoD H (.int i)
  | str (z : Str) : NoD H (.str z)
  | lst {a : Addr} {xs : List V} (h : H a = some (.lst xs)) : NoD H (.ref a)
  | tup {a : Addr} {xs : List V} (h : H a = some (.tup xs)) : NoD H (.ref a)
theorem NoD.ty {H : Hp} {x : V} (h : NoD H x) : ∃ t, TyX K H x t ∧ PySem.W.kitOne K t (.type "dict") = some false := by
  cases h with
  | non => exact ⟨_, .base .non, kit_ty (show kitB "NoneType" "dict" = some false from by decide +kernel)⟩
  | int i => exact ⟨_, .base (.int i), kit_ty (show kitB "int" "dict" = some false from by decide +kernel)⟩
  | str z => exact ⟨_, .base (.str z), kit_ty (show kitB "str" "dict" = some false from by decide +kernel)⟩
  | lst h => exact ⟨_, .base (.lst h), kit_ty (show kitB "list" "dict" = some false from by decide +kernel)⟩
  | tup h => exact ⟨_, .base (.tup h), kit_ty (show kitB "tuple" "dict" = some false from by decide +kernel)⟩
/-- what is refused -/
def Bad (K : PySem.W.Frag) (H : Hp) (fs : List Ent) (x : V) : Prop := NoD H x ∨
  (∃ a kvs, x = .ref a ∧ RD H a kvs ∧ kvs.length ≤ 30 ∧ (∀ p ∈ kvs, It K H p.1 ∧ It K H p.2) ∧ renB kvs = false) ∨
  ∃ a ms, x = .ref a ∧ H a = some (.dK (nmK ms)) ∧ MsOk ms ∧ ∃ e ∈ fs, look ms e.2.2 = none
theorem nm_flat {ms : List (Str × Str)} : (nmK ms).map (fun p => (kV p.1, p.2)) = ms.map fun p => (V.str p.1, V.str p.2) := by
  unfold nmK
  rw [List.map_map]
  rfl
theorem nm_it {H : Hp} {ms : List (Str × Str)} (ok : MsOk ms) : ∀ p ∈ (nmK ms).map (fun p => (kV p.1, p.2)), It K H p.1 ∧ It K H p.2 := by
  rw [nm_flat]
  intro p hp
  obtain ⟨q, hq, rfl⟩ := List.mem_map.mp hp
  obtain ⟨h1, h2⟩ := ok.k q hq
  exact ⟨.str _ (Nat.le_trans h1.len (by decide)), .str _ (Nat.le_trans h2.len (by decide))⟩
theorem nm_ren {ms : List (Str × Str)} (ok : MsOk ms) : renB ((nmK ms).map fun p => (kV p.1, p.2)) = true := by
  rw [nm_flat]
  unfold renB
  rw [Bool.and_eq_true]
  constructor
  · rw [List.all_eq_true]
    intro b hb
    obtain ⟨x, hx, rfl⟩ := List.mem_map.mp hb
    rcases List.mem_append.mp hx with hx | hx
    · obtain ⟨p, hp, rfl⟩ := List.mem_map.mp hx
      obtain ⟨q, hq, rfl⟩ := List.mem_map.mp hp
      exact (ok.k q hq).1.name
    · obtain ⟨p, hp, rfl⟩ := List.mem_map.mp hx
      obtain ⟨q, hq, rfl⟩ := List.mem_map.mp hp
      exact (ok.k q hq).2.name
  · refine decide_eq_true ?_
    have e : (ms.map fun p => (V.str p.1, V.str p.2)).map (·.2) = (ms.map (·.2)).map V.str := by
      rw [List.map_map, List.map_map]
      rfl
    rw [e]
    exact nodup_strs.mpr ok.vd
theorem names_len {fs : List Ent} {ns : List Str} (n : NamesOf fs ns) (l : fs.length ≤ 8) : ns.length ≤ 8 := by
  have z := len_sub (m := fs.map fun e => e.2.2) n.2.1 fun x hx => by
    obtain ⟨e, he, rfl⟩ := (n.2.2 x).mp hx
    exact List.mem_map.mpr ⟨e, he, rfl⟩
  rw [List.length_map] at z
  omega
def spRnm (K : PySem.W.Frag) : Sp := fun vs H Q E => ∃ a x fs m1 m2, vs = [.ref a, x] ∧ KindAt K H a fs m1 m2 ∧ Due fs ∧
  ((Bad K H fs x ∧ ErrV K H E x) ∨ ∃ d ms, x = .ref d ∧ H d = some (.dK (nmK ms)) ∧ MsOk ms ∧ (∀ e ∈ fs, (look ms e.2.2).isSome = true) ∧ EsOk (fs.map (ren ms)) ∧ (∀ hs n1 n2, Kn (fs.map (ren ms)) hs n1 n2 → n1 ≤ 3 ∧ n2 ≤ 3) ∧
    ∀ y hs n1 n2 H', L2.Same H H' → H y = none → KindAt K H' y hs n1 n2 → Kn (fs.map (ren ms)) hs n1 n2 → Q (.ref y) H')
theorem d_rnm (T : Txt K mg) : MDfX P w K mg base 10 (He.ma K (kc K) "renamed") ["self", "names"] (spRnm K) := by
  have D_is_renaming := d_ren (P := P) (w := w) (base := base) T
  obtain ⟨mc, cr, ⟨p0, sta⟩, _⟩ := T.cr
  refine T.M_renamed.byX sc_Kind_renamed (fun vs H Q E h => ?_) (fun f cdv A outer s H vs Q E hr hgd h => ?_)
  · obtain ⟨a, x, fs, m1, m2, rfl, _⟩ := h; rfl
  · obtain ⟨a, x, fs, m1, m2, rfl, kd, du, h⟩ := h
    refine ⟨_, (pss_cons (ps_if (PW.pt (pw_or (pt_not (pt_val (pe_own D_is_renaming (hr.mono (by first | decide | omega)) hgd (pa_cons (pv 1) pa_nil)))) (pw_or1 (pt_not (pt_val (pe_callB (cr_all rfl) (by rfl) T.n_all (by decide +kernel) (pa_cons (pe_lc (own := [("name", 2)]) rfl sc_Kind_renamed.nd (pi_list (pe_methP0 (pv 0) T.cls T.m_names (d_names T).fp (hr.mono (by first | decide | omega)) hgd)) (blkOk_by (own := [("name", 2)]) (N := ["self", "names", "name", "across", "up"]) (sc := defScope s_Kind_renamed) (by decide +kernel)) (fun _ _ _ _ _ => (pg_name (i := 2) sc_Kind_renamed.nd rfl (by first | exact Or.inl rfl | exact Or.inr rfl))) (fun _ _ _ _ _ => pts_nil) (fun _ _ _ _ _ => (pe_cmp (pc_din (hu_of hr) (pv 2) (pv 1)) rfl))) pa_nil))))))) (pss_one (ps_raise rfl Rx.takesD (Rx.pmk_mk rfl Exv.bsV (T.e_InvalidRenaming _ _ _) (by decide) (hr.mono (by first | decide | omega)) (pa_cons (pv 1) pa_nil)))) pss_nil)
      (pss_one (ps_ret (pe_staP (pe_glob (v := .ref (He.ga K "Kind")) (by rfl) T.g_Kind rfl) cr sta (d_of T).fp (hr.mono (by first | decide | omega)) hgd (pa_cons (pe_lc (own := [("across", 3), ("up", 4), ("name", 2)]) rfl sc_Kind_renamed.nd (pi_tup (pe_fld (pv 0) rfl)) (blkOk_by (own := [("across", 3), ("up", 4), ("name", 2)]) (N := ["self", "names", "name", "across", "up"]) (sc := defScope s_Kind_renamed) (by decide +kernel)) (fun _ _ _ _ _ => (pg_tupK (K := K) (n := 3) rfl rfl (pgs_cons (pg_name (i := 3) sc_Kind_renamed.nd rfl (by first | exact Or.inl rfl | exact Or.inr rfl)) (pgs_cons (pg_name (i := 4) sc_Kind_renamed.nd rfl (by first | exact Or.inl rfl | exact Or.inr rfl)) (pgs_cons (pg_name (i := 2) sc_Kind_renamed.nd rfl (by first | exact Or.inl rfl | exact Or.inr rfl)) pgs_nil))))) (fun _ _ _ _ _ => pts_nil) (fun _ _ _ _ _ => (pe_tup (pa_cons (pv 3) (pa_cons (pv 4) (pa_cons (pe_dget (hu_of hr) (pv 1) (pv 2) (fun _ _ => rfl)) pa_nil)))))) pa_nil))))), ?_⟩
    have l0 := du.ok.l0
    have l1 := du.ok.l1
    obtain ⟨dx, tt, rr, zs, ha, hdx, ht, el, hrr⟩ := id kd
    rcases h with ⟨bad, k⟩ | ⟨d, ms, rfl, hd, mok, hin, ok, le, k⟩
    · rcases bad with nod | ⟨b, kvs, rfl, rd, lk, it, rb⟩ | ⟨b, ms, rfl, hb, mok, e0, he0, no⟩
      · obtain ⟨t, ty, kt⟩ := nod.ty (K := K)
        refine ⟨_, rfl, x, rfl, .inl ⟨t, ty, kt, fun H2 s2 => ⟨false, rfl, iteT ?_⟩⟩⟩
        refine ⟨_, rfl, rfl, by simp [Exv.mk1], fun a n => fr_same s2 a n, fun dd H3 s3 e => k dd H3 (s2.trans s3) e⟩
      · refine ⟨_, rfl, _, rfl, .inr ⟨b, kvs, rfl, rd, lk, it, fun H2 s2 => ?_⟩⟩
        rw [rb]
        refine ⟨false, rfl, iteT ?_⟩
        refine ⟨_, rfl, rfl, by simp [Exv.mk1], fun a n => fr_same s2 a n, fun dd H3 s3 e => k dd H3 (s2.trans s3) e⟩
      · refine ⟨_, rfl, _, rfl, .inr ⟨b, _, rfl, .inr ⟨nmK ms, hb, rfl⟩, by rw [List.length_map]; unfold nmK; rw [List.length_map]; have := mok.l; omega, nm_it mok, fun H2 s2 => ?_⟩⟩
        rw [nm_ren mok]
        refine ⟨true, rfl, ?_⟩
        refine iteF ?_
        refine ⟨_, rfl, a, dx, _, rfl, s2 _ _ ha, rfl, a, fs, _, _, rfl, kd.same s2, by omega, fun p ns H3 s3 np hp nm => ?_⟩
        have s23 := s2.trans s3
        refine ⟨p, rfl, ⟨_, SqL.of hp⟩, fun D nD => ?_⟩
        have ln : ns.length ≤ 8 := names_len nm (by omega)
        refine lc_pure (walk_list (xs := ns.map V.str)) nD (by rw [List.length_map]; omega) (fun _ sm => SqL.of (sm _ _ hp)) (fun i y => ∃ z, ns[i]? = some z ∧ y = .bl (look ms z).isSome) (fun i x H5 H6 Kn Z hi sm y q => ?_) (fun H5 us sm hD hl hr' => ?_)
        · obtain ⟨rfl, hx⟩ := y
          rw [List.getElem?_map] at hx
          obtain ⟨z, hz, rfl⟩ := Option.map_eq_some_iff.mp hx
          refine ⟨rfl, _, rfl, _, rfl, b, _, rfl, DGet.k (k := Sum.inr z) ((s23.trans sm) _ _ hb), ?_⟩
          rw [valV_nm, Option.isSome_map]
          exact q _ _ (Same.refl _) ⟨z, hz, rfl⟩
        rw [List.length_map] at hl
        obtain rfl := map_of (f := fun z => V.bl (look ms z).isSome) hl hr'
        have s5 := s23.trans sm
        refine ⟨D, ns.map fun z => (look ms z).isSome, rfl, SqL.of (by rw [List.map_map]; exact hD), ?_⟩
        have nall : (ns.map fun z => (look ms z).isSome).all id = false := by
          rw [Bool.eq_false_iff]
          intro z
          have z2 := List.all_eq_true.mp z _ (List.mem_map.mpr ⟨e0.2.2, (nm.2.2 _).mpr ⟨e0, he0, rfl⟩, rfl⟩)
          rw [no] at z2
          cases z2
        rw [nall]
        refine ⟨false, rfl, iteT ?_⟩
        refine ⟨_, rfl, rfl, by simp [Exv.mk1], fun a n => fr_same s5 a n, fun dd H6 s6 e => k dd H6 (s5.trans s6) e⟩
    · refine ⟨_, rfl, _, rfl, .inr ⟨d, _, rfl, .inr ⟨nmK ms, hd, rfl⟩, by rw [List.length_map]; unfold nmK; rw [List.length_map]; have := mok.l; omega, nm_it mok, fun H2 s2 => ?_⟩⟩
      rw [nm_ren mok]
      refine ⟨true, rfl, ?_⟩
      refine iteF ?_
      refine ⟨_, rfl, a, dx, _, rfl, s2 _ _ ha, rfl, a, fs, _, _, rfl, kd.same s2, by omega, fun p ns H3 s3 np hp nm => ?_⟩
      have s23 := s2.trans s3
      refine ⟨p, rfl, ⟨_, SqL.of hp⟩, fun D nD => ?_⟩
      have ln : ns.length ≤ 8 := names_len nm (by omega)
      refine lc_pure (walk_list (xs := ns.map V.str)) nD (by rw [List.length_map]; omega) (fun _ sm => SqL.of (sm _ _ hp)) (fun i y => ∃ z, ns[i]? = some z ∧ y = .bl (look ms z).isSome) (fun i x H5 H6 Kn Z hi sm y q => ?_) (fun H5 us sm hD hl hr' => ?_)
      · obtain ⟨rfl, hx⟩ := y
        rw [List.getElem?_map] at hx
        obtain ⟨z, hz, rfl⟩ := Option.map_eq_some_iff.mp hx
        refine ⟨rfl, _, rfl, _, rfl, d, _, rfl, DGet.k (k := Sum.inr z) ((s23.trans sm) _ _ hd), ?_⟩
        rw [valV_nm, Option.isSome_map]
        exact q _ _ (Same.refl _) ⟨z, hz, rfl⟩
      rw [List.length_map] at hl
      obtain rfl := map_of (f := fun z => V.bl (look ms z).isSome) hl hr'
      have s5 := s23.trans sm
      refine ⟨D, ns.map fun z => (look ms z).isSome, rfl, SqL.of (by rw [List.map_map]; exact hD), ?_⟩
      have yall : (ns.map fun z => (look ms z).isSome).all id = true := by
        rw [List.all_eq_true]
        intro b hb
        obtain ⟨z, hz, rfl⟩ := List.mem_map.mp hb
        obtain ⟨e, he, rfl⟩ := (nm.2.2 z).mp hz
        exact hin e he
      rw [yall]
      refine ⟨true, rfl, iteF ?_⟩
      refine ⟨rfl, _, rfl, a, kc K, dx, _, _, rfl, s5 _ _ ha, T.cls, T.no_entries, rfl, tt, rfl, ⟨_, SqT.of (s5 _ _ ht)⟩, fun D2 nD2 => ?_⟩
      have lne := el.len
      refine lc_depI (walk_tup (xs := zs)) nD2 (by omega) (fun _ sm2 => SqT.of (sm2 _ _ (s5 _ _ ht))) (fun i H v => ∃ e, fs[i]? = some e ∧ EntT H v (ren ms e)) (fun i H H' v s ⟨e, he, h⟩ => ⟨e, he, h.same s⟩) (fun i H xs ys v hD ⟨e, he, h⟩ => ⟨e, he, h.mut hD⟩) (fun i x H6 H7 Kn2 Z hi sm2 _ y q => ?_) (fun H6 ys sm2 hD2 hl2 hr3 => ?_)
      · obtain ⟨rfl, hx⟩ := y
        obtain ⟨e, he, u, rfl, hu⟩ := el.at hx
        have s7 := s5.trans sm2
        have hu' := s7 _ _ hu
        have hd7 := s7 _ _ hd
        obtain ⟨z', hz'⟩ := Option.isSome_iff_exists.mp (hin e (List.mem_of_getElem? he))
        have hg : DGet H7 d (V.str e.2.2) (some (.str z')) := by
          have g := DGet.k (k := Sum.inr e.2.2) hd7
          rw [valV_nm, hz'] at g
          exact g
        refine ⟨u, _, rfl, SqT.of hu', rfl, ?_⟩
        walk_at "rd"
        refine fun p np => q _ _ (Same.new np) ⟨e, he, p, rfl, ?_⟩
        unfold ren
        rw [hz', upd_same]
        rfl
      · exact ⟨D2, ys, _, rfl, .inl hD2, el_of (hl2.trans lne) hr3, ok, le, fun y hs n1 n2 H' s6 ny kd2 kn => k y hs n1 n2 H' ((s5.trans sm2).trans s6) ((s5.trans sm2).free ny) kd2 kn⟩
end
end K12

set_option Elab.async false
set_option linter.all false
set_option maxRecDepth 100000
set_option maxHeartbeats 4000000
namespace Rx
open PySem L2 Lay PySem.Spec PyProof.Rows LamX
/-- around a lambda's body: its wish -/
theorem takesL {X : Cx} {A : Around} {outer : List Env} {s : Shared} {H : Hp} {E : XK} {scope : Scope} {f c' : Addr} : Takes (lamCx X A outer s H E scope f c') (fun cls d _ H' => E cls d H') := takes_of rfl rfl rfl rfl
end Rx
namespace K12
open PySem L2 Lay Own SrtO LamX Od
local macro_rules | `(tactic| walk_at "ne") => `(tactic| first | assumption | (apply Ne.symm; assumption) | exact ne_of_none (by walk_at "look") (by assumption) | exact (ne_of_none (by walk_at "look") (by assumption)).symm)
local macro_rules | `(tactic| walk_at "look") => `(tactic| first | assumption | exact upd_same | (refine Eq.trans (upd_ne ?_) ?_; walk_at "ne"; walk_at "look"))
local macro_rules | `(tactic| walk_at "rds") => `(tactic| first | rfl | assumption | walk_at "look" | exact SqL.of (by walk_at "look") | exact SqT.of (by walk_at "look") | exact Or.inl (SqL.of (by walk_at "look")) | exact Or.inl (by assumption) | decide | omega | exact Nat.le_of_ble_eq_true rfl | exact Or.inr ⟨by decide, by decide⟩ | exact Or.inl ⟨by omega, by omega⟩ | exact ⟨by decide, by decide⟩)
local macro_rules | `(tactic| walk_at "rd1") => `(tactic| first | (apply Exists.intro) | (refine And.intro ?_ ?_; walk_at "rds") | (refine Or.inl ?_; apply Exists.intro; refine And.intro ?_ ?_; rfl))
local macro_rules | `(tactic| walk_at "rd") => `(tactic| repeat walk_at "rd1")
/-! ### a def that makes lambdas: its code object, its table -/
def SrcT (K : PySem.W.Frag) (mg : Str → Option Value) (base : Heap) (x : Str) (st : Stmt) (ps : List Str) (c P : Addr) : Prop := ∃ f fd, Fun K x x st f fd ∧ mg x = some (.ref f) ∧ Binds K fd ps [] ∧ Kw1 fd ps ∧ fd.code = .ref c ∧ TabB base mg c P
def lq (x : Str) : Str := x ++ ".<locals>." ++ "<lambda>"
structure Tbs where
  c1 : Addr
  P1 : Addr
def Tbs.l (t : Tbs) : List (Addr × Str) := [(t.P1, lq "_law_renamed_right")]
structure TxT (K : PySem.W.Frag) (mg : Str → Option Value) (base : Heap) (t : Tbs) : Prop where
  T : Txt K mg
  b : SrcT K mg base "_law_renamed_right" s_l_renamed_right ["_law_pot_here", "_law_some", "_law_tags"] t.c1 t.P1
section
variable {P : Program} {w : World} {K : PySem.W.Frag} {mg : Str → Option Value} {base : Heap} {x : Str} {st : Stmt} {ps N : List Str} {c Pt : Addr} {k : Nat} {sp : Sp} {t : Tbs}
theorem TxT.u1 (T : TxT K mg base t) : ∀ p ∈ t.l, p.1 = t.P1 → p.2 = lq "_law_renamed_right" := by
  intro p hp e
  simp only [Tbs.l, List.mem_cons, List.not_mem_nil, or_false] at hp
  rw [hp]
theorem SrcT.by (S : SrcT K mg base x st ps c Pt) (sc : FnScope N ps (defScope st)) (len : ∀ vs H Q E, sp vs H Q E → vs.length = ps.length)
    (hbody : TabB base mg c Pt → ∀ (f : Addr) (A : Around) (outer : List Env) (s : Shared) (H : Hp) (vs : List V) (Q : VK) (E : XK),
      Room k (A.deeper (PyProof.Rows.envOfC x (defScope st) s.heap.objs.size f (.ref c))) → A.guards = some [] → sp vs H Q E →
      ∃ t, PSs (cxOf CX0 P w K mg base N x (defScope st) f (.ref c) A outer s H E).nox (defBody st) t ∧ t { nx := fun _ H' => Q .non H', rt := Q } (start N vs) H) : Df P w K mg base (k + 1) x ps sp := by
  obtain ⟨f, fd, F, g, b1, b2, ec, tb⟩ := S
  obtain ⟨oc, od, kV, doc, pm, an, cdv, ct, osl, rfl, lk, hcd⟩ := F.ex
  obtain rfl : cdv = .ref c := ec
  refine ⟨f, _, fnG_of lk hcd sc len fun A outer s H vs Q E hr hg hsp => ?_, g, F.kp, b1, b2⟩
  obtain ⟨t, h, q⟩ := hbody tb f A outer s H vs Q E hr hg hsp
  exact ⟨t, h.nox, q⟩
end
/-! ### heard -/
def wE (K : PySem.W.Frag) (Q : VK) : XK := fun cls d H' =>
  cls = .ref (He.ga K "InvalidRenaming") ∧ ∃ dd v, d = some dd ∧ H' dd = some (exd dd [("value", v)]) ∧ ∀ l H2, L2.Same H' H2 → H' l = none → H2 l = some (.lst [.str "renaming", v, .bl true, .bl true]) → Q (.ref l) H2
def TTh (K : PySem.W.Frag) : (XK → Hp → VK → Prop) → Hp → VK → Prop := fun tl H Q => ∀ (H1 : Hp) (R : VK), L2.Same H H1 → tl (wE K Q) H1 R
theorem heard_gives {X : Cx} (T : Txt X.K X.mg) {g : Addr} {cdg : Value} {q : Str} : Rx.GivesW X ["_law_call", "_law_heard_here", "e"] "_law_heard" (defScope s_l_heard) g cdg (defBody s_l_heard) "_law_call" q (TTh X.K) := by
  intro f c' s H Q tl act hc h
  refine ⟨_, (pss_cons (ps_set (i := 1) sc_l_heard.nd rfl (by first | exact Or.inl rfl | exact Or.inr rfl) (pe_lst (pa_cons pe_str pa_nil)))
      (pss_cons (Rx.ps_tryA (i := 2) rfl rfl sc_l_heard.nd rfl rfl (fun W pn xe tk _ => (pss_one (ps_expr (act W pn xe _ _ tk)))) (.cons ⟨rfl, by decide, .inl T.g_InvalidRenaming⟩ (fun er ob cls d pn hz hd => (pss_one (ps_set (i := 1) sc_l_heard.nd rfl (by first | exact Or.inl rfl | exact Or.inr rfl) (pe_lst (pa_cons pe_str (pa_cons (Rx.pe_cf (T.e_InvalidRenaming X.prog X.w X.base).cl T.no_InvalidRenaming_value hz hd (pv 2)) (pa_cons (pe_callB  (Rx.call_ci (T.e_InvalidRenaming X.prog X.w X.base).cl T.gs hz hd) (by rfl) T.n_isinstance (by decide +kernel) (pa_cons (pv 2) (pa_cons (pe_glob (v := .ref (He.ga X.K "LineError")) (by rfl) T.g_LineError rfl) pa_nil))) (pa_cons (pe_callB  (Rx.call_ci (T.e_InvalidRenaming X.prog X.w X.base).cl T.gs hz hd) (by rfl) T.n_isinstance (by decide +kernel) (pa_cons (pv 2) (pa_cons (pe_bltn (v := .ty "ValueError") (u := .type "ValueError") (by rfl) T.n_ValueError (by decide +kernel) rfl) pa_nil))) pa_nil)))))))) .nil))
      (pss_one (ps_ret (pv 1))))), ?_⟩
  walk_at "rd"
  intro l0 n0
  have s0 := Same.new (o := .lst [.str "none"]) n0
  refine ⟨wE X.K Q, fun cls d G' he => ?_, rfl, s0 _ _ hc, ?_⟩
  · obtain ⟨rfl, dd, p, rfl, hd, k⟩ := he
    refine ⟨true, T.x_rr, (fun _ e ne => ?_), (fun z => nomatch z)⟩
    refine ⟨_, rfl, rfl, rfl, dd, _, p, rfl, hd, rfl, _, rfl, _, _, true, dd, _, rfl, rfl, rfl, hd, .own _, T.ki_InvalidRenaming, ?_⟩
    refine ⟨_, rfl, _, _, true, dd, _, rfl, rfl, rfl, hd, .ty _, T.kv_InvalidRenaming, ?_⟩
    walk_at "rd"
    intro l nl
    exact ⟨_, rfl, k l _ (Same.new nl) nl upd_same⟩
  · exact h _ _ s0
/-- _law_heard(lambda: body) -/
theorem pe_heard {X : Cx} {Tl : List (Addr × Str)} {c P : Addr} {k : Nat} {params : Arguments} {body : Expr} {scope : Scope} {t : XK → TE} {p lpos pos : Pos} (T : Txt X.K X.mg) (hgA : X.A.guards = some []) (TB : TabB X.base X.mg c P) (hcode : X.env.code = .ref c)
    (hmT : (P, X.env.qual ++ "<lambda>") ∈ Tl) (hu : ∀ p ∈ Tl, p.1 = P → p.2 = X.env.qual ++ "<lambda>") (hr : Room (k + 2) X.A) (L : LamS X.env.scope scope) (hdef : defaultsOf params X.env = ([], []))
    (hbind : ∀ (q : Str) (cl : List (Str × Addr)) (pm cv ctv : Value), bindArgs (PySem.W.kla_fn "<lambda>" q params body scope cl pm cv ctv) ⟨[], []⟩ = pure [])
    (walk : ∀ (A : Around) (outer : List Env) (s : Shared) (H : Hp) (E : XK) (f c' : Addr), Room k (A.deeper (lamEnv X scope s.heap.objs.size f c')) → A.guards = some [] → PE (lamCx X A outer s H E scope f c') body (t E))
    (hg : Gl X "_law_heard" := by rfl) : PE X (.Call (.Name "_law_heard" p) [.Lambda params body scope lpos] [] pos) (tLam Tl (TTh X.K) t) := by
  obtain ⟨g, fd, F, gm, b1, b2⟩ := T.S_l_heard
  obtain ⟨oc, od, kV, doc, pm, an, cdv, ct, osl, rfl, lk, hcd⟩ := F.ex
  exact Rx.pe_lamG (a := "_law_call") hgA gm F.kp lk hcd b1 sc_l_heard rfl (.inl rfl) (heard_gives T) TB hcode hmT hu hr L hdef hbind walk hg
section
variable {K : PySem.W.Frag} {H H' : Hp}
theorem lam_use {Tl : List (Addr × Str)} {t : XK → TE} {σ : L2.St} {Q : VK} {x : V} (tb : Tabs Tl H)
    (body : ∀ (E : XK) (R : VK) H2, ExtN H H2 → ErrV K H2 E x → t E σ H2 R)
    (k : ∀ l H3, ExtN H H3 → Tabs Tl H3 → (∀ b o, H b = some o → (∀ ps, o ≠ .tbl ps) → b ≠ l) → H3 l = some (.lst [.str "renaming", x, .bl true, .bl true]) → Q (.ref l) H3) : tLam Tl (TTh K) t σ H Q := by
  refine ⟨tb, fun H1 eN T1 H2 R s2 => body _ _ H2 (eN.trans (.of s2)) fun d H3 s3 hd => ⟨rfl, d, x, rfl, hd, fun l H4 s4 nl hl => ?_⟩⟩
  have s24 := s2.trans (s3.trans s4)
  exact k l H4 (eN.trans (.of s24)) (T1.ext fun b o e => s24 _ _ e) (fun b o e np => ne_of_none (s3 _ _ (s2 _ _ (eN b o e np))) nl) hl
end
end K12

set_option Elab.async false
set_option linter.all false
set_option maxRecDepth 100000
set_option maxHeartbeats 4000000
namespace Hd
open PySem L2 Lay He PySem.Spec PyProof.Rows
/-- an own error's class, as a test -/
def clB (K : PySem.W.Frag) (C : Addr) (newId : String) (bmB : List Value) : Bool :=
  PySem.W.excInitIn K C bmB newId && (PySem.W.excOver K C bmB && (PySem.W.hasDictIn K C && (eqO (PySem.W.findIn K (.ref C) "__setattr__") (some (some (.builtin "object.__setattr__"))) &&
  (eqO (PySem.W.findIn K (.ref C) "__getattribute__") (some (some (.builtin "BaseException.__getattribute__"))) && (eqO (PySem.W.findIn K (.ref C) "__getattr__") (some none) &&
  (decide (PySem.W.subIn K (.ref C) (.type "BaseException") = some true) && (decide (PySem.W.typeIn K (.ref C) = some (.type "type")) && (PySem.W.keepIn K (.ref C) &&
  (eqO (PySem.W.findIn K (.ref C) "__class__") (some (some (.builtin "object.__class__"))) && decide (PySem.W.mroIn K C (.type "object") = some true))))))))))
theorem cl_ok {K : PySem.W.Frag} {h : Heap} {C : Addr} {newId : String} {bmB : List Value} (X : K.In h) (c : clB K C newId bmB = true) : Exv.Cl K C newId bmB := by
  obtain ⟨c1, c⟩ := ba c
  obtain ⟨c2, c⟩ := ba c
  obtain ⟨c3, c⟩ := ba c
  obtain ⟨c4, c⟩ := ba c
  obtain ⟨c5, c⟩ := ba c
  obtain ⟨c6, c⟩ := ba c
  obtain ⟨c7, c⟩ := ba c
  obtain ⟨c8, c⟩ := ba c
  obtain ⟨c9, c⟩ := ba c
  obtain ⟨c10, c11⟩ := ba c
  refine ⟨?_, eqO_ok c4, eqO_ok c5, eqO_ok c6, of_decide_eq_true c7, of_decide_eq_true c8, c9, c3, eqO_ok c10, of_decide_eq_true c11⟩
  cases q : K.lookup C with
  | none => unfold PySem.W.excInitIn at c1; rw [q] at c1; cases c1
  | some o =>
    obtain ⟨nm, N, qn, bs, bm, hdct, sn, sub, ab, col, dd, k0, k1, k2, k3, k5, hg, _⟩ := PySem.W.excInit_of X c1
    have e := X _ _ q
    rw [hg] at e
    obtain rfl := (Option.some.inj e)
    unfold PySem.W.hasDictIn PySem.W.clsIn at c3
    unfold PySem.W.excOver PySem.W.clsIn at c2
    rw [q] at c2 c3
    have c3' : hdct = true := c3
    subst c3'
    have c2' : (C == C && PySem.W.excTail bmB bm) = true := c2
    exact ⟨nm, qn, N, bs, bm, sn, sub, ab, col, dd, k0, k1, k2, k3, k5, rfl, (ba c2').2⟩
/-! the Hook: own tests, and the defs -/
def obsF (fb : PySem.W.Frag → Bool) (fn : List DefD) (K : PySem.W.Frag) : AlD := (fb K && (obsD [] fn K).1, (obsD [] fn K).2)
def obsFG (n : Nat) (fb : PySem.W.Frag → Bool) (fn : List DefD) (g : Addr → Option Obj) : AlD := obsF fb fn (frG g (asD g n))
def hookF (n : Nat) (fb : PySem.W.Frag → Bool) (fn : List DefD) : PySem.W.Hook where
  α := AlD
  obs := fun s => obsFG n fb fn s.heap.get?
  val := fun _ => valD fn
  says := fun _ h => ∃ K : PySem.W.Frag, K.In h ∧ obsF fb fn K = valD fn
  of := fun _ _ e => ⟨_, frG_in, e⟩
  keeps := fun _ _ _ ⟨K, hK, c⟩ k => ⟨K, PySem.W.Frag.In.keeps hK k, c⟩
theorem obsFG_eq {n : Nat} {fb : PySem.W.Frag → Bool} {fn : List DefD} {g : Addr → Option Obj} {s : Shared} (h : ∀ a, g a = s.heap.get? a) : obsFG n fb fn g = (hookF n fb fn).obs s := by
  have e : g = s.heap.get? := funext h
  rw [e] <;> rfl
theorem says_fb {fb : PySem.W.Frag → Bool} {fn : List DefD} {K : PySem.W.Frag} (c : obsF fb fn K = valD fn) : fb K = true :=
  (ba (show (fb K && (obsD [] fn K).1) = true from congrArg (fun z : AlD => z.1) c)).1
theorem says_fn {fb : PySem.W.Frag → Bool} {fn : List DefD} {K : PySem.W.Frag} (c : obsF fb fn K = valD fn) : SaysD [] fn K :=
  Prod.ext (ba (show (fb K && (obsD [] fn K).1) = true from congrArg (fun z : AlD => z.1) c)).2 (show (obsF fb fn K).2 = (valD fn).2 from congrArg (fun z : AlD => z.2) c)
/-- a def of the text -/
theorem fun_of {K : PySem.W.Frag} {x qual : Str} {st : Stmt} {f : Addr} {fd : FuncData} (F : FunD K x qual (defArgs st) (defBody st) (defScope st) [] [] f fd) : Fun K x qual st f fd := by
  obtain ⟨⟨oc, od, dV, kV, doc, pm, an, cdv, ct, osl, rfl, lk, hcd, hD, hK⟩, kp⟩ := F
  rcases hD with ⟨_, rfl⟩ | ⟨e, _⟩
  · exact ⟨⟨oc, od, kV, doc, pm, an, cdv, ct, osl, rfl, lk, hcd⟩, kp⟩
  · exact absurd rfl e
theorem src_of {K : PySem.W.Frag} {mg : Str → Option Value} {x : Str} {st : Stmt} {ps : List Str} {f : Addr} {fd : FuncData} (F : Fun K x x st f fd) (g : mg x = some (.ref f))
    (h : ∀ (kV doc pm : Value) (an : Option Addr) (cdv ct : Value) (us : List Value), us.length = ps.length → bindArgs (PySem.W.fnOf x x (defArgs st) (defBody st) (defScope st) .none kV doc pm an cdv ct) ⟨us, []⟩ = pure (ps.zip us))
    (h1 : ∀ (kV doc pm : Value) (an : Option Addr) (cdv ct : Value) (p : Str) (v : Value), ps = [p] → bindArgs (PySem.W.fnOf x x (defArgs st) (defBody st) (defScope st) .none kV doc pm an cdv ct) ⟨[], [(p, v)]⟩ = pure [(p, v)]) : Src K mg x st ps := by
  refine ⟨f, fd, F, g, F.binds h, fun p v e => ?_⟩
  obtain ⟨oc, od, kV, doc, pm, an, cdv, ct, osl, rfl, lk, hcd⟩ := F.ex
  exact h1 kV doc pm an cdv ct p v e
/-- a law's end over such a head -/
theorem walk_GE {l : PySem.W.OpenLaw} {n k : Nat} {q : Program} {loose : List Str} {XP : (Str → Option Value) → Heap → Prop} {YP : World → Heap → Prop} {d : DefRec} {x : Str}
    (hn : l.most = some n) (hn2 : n ≤ sizeLine) (hdf : d.params.defaults = []) (hr : Room k callerA)
    (F : ∀ (w : World) (mg : Str → Option Value) (fa : Addr) (h : Heap), YP w h → h.Ns mainGlobals mg → mg d.name = some (.ref fa) →
      ∃ (K : PySem.W.Frag) (fd : FuncData) (sp : Sp), K.In h ∧ (∀ (s : Shared) (u : Value), BindsTo s fd ⟨[u], []⟩ [(x, u)]) ∧
        (∀ (H : Hp) (a : Addr) (ns : List Int), ns.length ≤ n → Only H → SqL K H a (ns.map V.int) → sp [.ref a] H (fun v _ => v = .bl true) fun _ _ _ => False) ∧
        ∀ base : Heap, K.In base → base.Ns mainGlobals mg → FnG l.prog w K mg base CX0 k fa fd [x] sp) :
    PySem.W.WalkO q loose XP YP l.row.toRowW d [] (fun f vs => PySem.call f vs) := by
  refine Att.attach_call hn hdf fun w s0 s1 mg mb fa o pm cd doc a vs ns G Y ho hd hcd hmg hobj hints hlen hg => ?_
  obtain ⟨K, fd, sp, KX, hb, hsp, hF⟩ := F w mg fa _ Y G.T.g hmg
  exact law_callG KX G.T.g G.T.b G.T.builtins G.T.nolimit hg hobj hints (Nat.le_trans hlen hn2) hr hF hb fun H hO hS => hsp H a ns hlen hO hS
end Hd

set_option Elab.async false
set_option linter.all false
set_option maxRecDepth 100000
set_option maxHeartbeats 4000000
namespace Ha
open PySem L2 Lay He Hd PySem.Spec PyProof.Rows
/-- one def: its address, its name, its qualified name, its statement -/
structure DefA where
  ad : PySem.W.Frag → Addr
  name : Str
  qual : Str
  st : Stmt
def fnA (K : PySem.W.Frag) (a : Addr) : FnW := match K.lookup a with
  | some ⟨_, _, .func fd, _⟩ => some (fd.name, fd.qualname, fd.params, fd.body, fd.scope, fd.globals, fd.closure, fd.builtins)
  | _ => none
def isNone : Value → Bool
  | .none => true
  | _ => false
def DefA.val (d : DefA) : FnW := some (d.name, d.qual, defArgs d.st, .stmts (defBody d.st), defScope d.st, mainGlobals, [], builtinsNs)
def DefA.ok (K : PySem.W.Frag) (d : DefA) : Bool := PySem.W.keepIn K (.ref (d.ad K)) && (match K.lookup (d.ad K) with
  | some ⟨_, _, .func fd, _⟩ => PySem.W.codeIn K fd.code d.qual && isNone fd.defaults
  | _ => false)
theorem DefA.fun {K : PySem.W.Frag} {d : DefA} (e : fnA K (d.ad K) = d.val) (c : d.ok K = true) : ∃ fd, Fun K d.name d.qual d.st (d.ad K) fd := by
  obtain ⟨kp, c2⟩ := ba c
  unfold fnA at e
  cases q : K.lookup (d.ad K) with
  | none => rw [q] at c2; cases c2
  | some o =>
    obtain ⟨oc, od, dt, osl⟩ := o
    rw [q] at c2 e
    cases dt with
    | func fd =>
      obtain ⟨n1, n2, n3, n4, n5, n6, n7, n8, n9, n10, n11, n12, n13, n14, n15⟩ := fd
      have e2 : (some (n1, n2, n3, n4, n5, n6, n7, n15) : FnW) = some (d.name, d.qual, defArgs d.st, .stmts (defBody d.st), defScope d.st, mainGlobals, [], builtinsNs) := e
      simp only [Option.some.injEq, Prod.mk.injEq] at e2
      obtain ⟨h1, h2, h3, h4, h5, h6, h7, h8⟩ := e2
      subst h1 h2 h3 h4 h5 h6 h7 h8
      obtain ⟨k1, k2⟩ := ba (show (PySem.W.codeIn K n13 d.qual && isNone n8) = true from c2)
      cases n8 with
      | none => exact ⟨_, ⟨⟨oc, od, n9, n10, n11, n12, n13, n14, osl, rfl, q, k1⟩, kp⟩⟩
      | _ => cases k2
    | _ => cases c2
abbrev AlA : Type := Bool × List FnW
def obsA (fb : PySem.W.Frag → Bool) (fn : List DefA) (K : PySem.W.Frag) : AlA := (fb K && fn.all fun d => d.ok K, fn.map fun d => fnA K (d.ad K))
def valA (fn : List DefA) : AlA := (true, fn.map DefA.val)
def asA (g : Addr → Option Obj) (n : Nat) : List Addr := PySem.cStatics :: asD g n
def obsAG (n : Nat) (fb : PySem.W.Frag → Bool) (fn : List DefA) (g : Addr → Option Obj) : AlA := obsA fb fn (frG g (asA g n))
def hookA (n : Nat) (fb : PySem.W.Frag → Bool) (fn : List DefA) : PySem.W.Hook where
  α := AlA
  obs := fun s => obsAG n fb fn s.heap.get?
  val := fun _ => valA fn
  says := fun _ h => ∃ K : PySem.W.Frag, K.In h ∧ obsA fb fn K = valA fn
  of := fun _ _ e => ⟨_, frG_in, e⟩
  keeps := fun _ _ _ ⟨K, hK, c⟩ k => ⟨K, PySem.W.Frag.In.keeps hK k, c⟩
theorem obsAG_eq {n : Nat} {fb : PySem.W.Frag → Bool} {fn : List DefA} {g : Addr → Option Obj} {s : Shared} (h : ∀ a, g a = s.heap.get? a) : obsAG n fb fn g = (hookA n fb fn).obs s := by
  have e : g = s.heap.get? := funext h
  rw [e] <;> rfl
theorem says_b {fb : PySem.W.Frag → Bool} {fn : List DefA} {K : PySem.W.Frag} (c : obsA fb fn K = valA fn) : fb K = true :=
  (ba (show (fb K && fn.all fun d => d.ok K) = true from congrArg (fun z : AlA => z.1) c)).1
theorem says_d {fb : PySem.W.Frag → Bool} {fn : List DefA} {K : PySem.W.Frag} (c : obsA fb fn K = valA fn) (i : Nat) {d : DefA} (h : fn[i]? = some d := by rfl) : ∃ fd, Fun K d.name d.qual d.st (d.ad K) fd := by
  have c2 := (ba (show (fb K && fn.all fun d => d.ok K) = true from congrArg (fun z : AlA => z.1) c)).2
  have e : fn.map (fun d => fnA K (d.ad K)) = fn.map DefA.val := congrArg (fun z : AlA => z.2) c
  have e2 : (fn.map fun d => fnA K (d.ad K))[i]? = (fn.map DefA.val)[i]? := by rw [e]
  rw [List.getElem?_map, List.getElem?_map, h] at e2
  exact DefA.fun (Option.some.inj e2) (List.all_eq_true.mp c2 d (List.mem_of_getElem? h))
/-- arguments of a def by place, one by its name -/
theorem two_of {K : PySem.W.Frag} {x qual : Str} {st : Stmt} {ps : List Str} {f : Addr} {fd : FuncData} (F : Fun K x qual st f fd)
    (h : ∀ (kV doc pm : Value) (an : Option Addr) (cdv ct : Value) (us : List Value), us.length = ps.length → bindArgs (PySem.W.fnOf x qual (defArgs st) (defBody st) (defScope st) .none kV doc pm an cdv ct) ⟨us, []⟩ = pure (ps.zip us))
    (h1 : ∀ (kV doc pm : Value) (an : Option Addr) (cdv ct : Value) (p : Str) (v : Value), ps = [p] → bindArgs (PySem.W.fnOf x qual (defArgs st) (defBody st) (defScope st) .none kV doc pm an cdv ct) ⟨[], [(p, v)]⟩ = pure [(p, v)]) : Binds K fd ps [] ∧ Kw1 fd ps := by
  refine ⟨F.binds h, fun p v e => ?_⟩
  obtain ⟨oc, od, kV, doc, pm, an, cdv, ct, osl, rfl, lk, hcd⟩ := F.ex
  exact h1 kV doc pm an cdv ct p v e
/-! tests -/
/-- the record of a static method, a property -/
def rcA (K : PySem.W.Frag) (p : Addr) (kind : String) : Addr := match PySem.W.recIn K p kind with
  | some (.ref g :: _) => g
  | _ => 0
def hdR (l : Option (List Value)) (g : Addr) : Bool := match l with
  | some (v :: _) => decide (v = .ref g)
  | _ => false
theorem hdR_ok {l : Option (List Value)} {g : Addr} (c : hdR l g = true) : ∃ rest, l = some (.ref g :: rest) := by
  cases l with
  | none => cases c
  | some l =>
    cases l with
    | nil => cases c
    | cons v r => exact ⟨r, by rw [of_decide_eq_true (show decide (v = .ref g) = true from c)]⟩
def rcB (K : PySem.W.Frag) (p : Addr) (kind : String) : Bool := hdR (PySem.W.recIn K p kind) (rcA K p kind)
theorem rc_ok {K : PySem.W.Frag} {p : Addr} {kind : String} (c : rcB K p kind = true) : ∃ rest, PySem.W.recIn K p kind = some (.ref (rcA K p kind) :: rest) := hdR_ok c
def crdB (K : PySem.W.Frag) (C : Addr) : Bool := PySem.W.readsIn K C (.type "type") && eqO (PySem.W.specialIn K (.ref C) "__getattribute__") (some (some (.builtin "type.__getattribute__")))
theorem crd_ok {K : PySem.W.Frag} {C : Addr} (c : crdB K C = true) : ClX.CRead K C (.type "type") := ⟨(ba c).1, eqO_ok (ba c).2⟩
def isGet (r : Option PySem.W.CFound) (a b c d : Value) : Bool := match r with
  | some (.get a' b' c' d') => decide (a' = a) && (decide (b' = b) && (decide (c' = c) && decide (d' = d)))
  | _ => false
theorem isGet_ok {r : Option PySem.W.CFound} {a b c d : Value} (h : isGet r a b c d = true) : r = some (.get a b c d) := by
  cases r with
  | none => cases h
  | some f =>
    cases f with
    | val v => cases h
    | get a' b' c' d' =>
      obtain ⟨h1, h⟩ := ba (show (decide (a' = a) && (decide (b' = b) && (decide (c' = c) && decide (d' = d)))) = true from h)
      obtain ⟨h2, h⟩ := ba h
      obtain ⟨h3, h4⟩ := ba h
      rw [of_decide_eq_true h1, of_decide_eq_true h2, of_decide_eq_true h3, of_decide_eq_true h4]
def isVal (r : Option PySem.W.CFound) (x : V) : Bool := match r with
  | some (.val v) => relB x v
  | _ => false
theorem isVal_ok {r : Option PySem.W.CFound} {x : V} (h : isVal r x = true) : ∃ u, r = some (.val u) ∧ RelV x u := by
  cases r with
  | none => cases h
  | some f =>
    cases f with
    | val v => exact ⟨v, rfl, relB_ok h⟩
    | get a' b' c' d' => cases h
def cstB (K : PySem.W.Frag) (C : Addr) (m : Str) : Bool := isGet (PySem.W.findCls K (.ref C) (.type "type") m) (.builtin "staticmethod.__get__") (.ref (ma K C m)) .none (.ref C) && (rcB K (ma K C m) "staticmethod" && PySem.W.keepIn K (.ref (rcA K (ma K C m) "staticmethod")))
theorem cst_ok {K : PySem.W.Frag} {C : Addr} {m : Str} (c : cstB K C m = true) :
    PySem.W.findCls K (.ref C) (.type "type") m = some (.get (.builtin "staticmethod.__get__") (.ref (ma K C m)) .none (.ref C)) ∧ (∃ rest, PySem.W.recIn K (ma K C m) "staticmethod" = some (.ref (rcA K (ma K C m) "staticmethod") :: rest)) ∧
      PySem.W.keepIn K (.ref (rcA K (ma K C m) "staticmethod")) = true := ⟨isGet_ok (ba c).1, rc_ok (ba (ba c).2).1, (ba (ba c).2).2⟩
def cviB (K : PySem.W.Frag) (C : Addr) (f : Str) (i : Int) : Bool := isVal (PySem.W.findCls K (.ref C) (.type "type") f) (.int i)
theorem cvi_ok {K : PySem.W.Frag} {C : Addr} {f : Str} {i : Int} (c : cviB K C f i = true) : ∃ u, ClX.CVal K C (.type "type") f (.int i) u := by
  obtain ⟨u, e, r⟩ := isVal_ok c
  exact ⟨u, e, r⟩
def prpB (K : PySem.W.Frag) (C : Addr) (f : Str) : Bool := eqO (PySem.W.findIn K (.ref C) f) (some (some (.ref (ma K C f)))) && (eqO (PySem.W.specialIn K (.ref (ma K C f)) "__get__") (some (some (.builtin "property.__get__"))) &&
  (decide (PySem.W.takesIn K (.ref (ma K C f)) = some true) && rcB K (ma K C f) "property"))
theorem prp_ok {K : PySem.W.Frag} {C : Addr} {f : Str} (c : prpB K C f = true) : PropOf K C f (ma K C f) (rcA K (ma K C f) "property") := by
  obtain ⟨c1, c⟩ := ba c
  obtain ⟨c2, c⟩ := ba c
  obtain ⟨c3, c4⟩ := ba c
  exact ⟨eqO_ok c1, eqO_ok c2, of_decide_eq_true c3, rc_ok c4⟩
def dunB (K : PySem.W.Frag) (C : Addr) (m : Str) : Bool := eqO (PySem.W.findIn K (.ref C) m) (some (some (.ref (ma K C m)))) && PySem.W.isFn K (.ref (ma K C m))
theorem dun_ok {K : PySem.W.Frag} {C : Addr} {m : Str} (c : dunB K C m = true) : PySem.W.findIn K (.ref C) m = some (some (.ref (ma K C m))) ∧ PySem.W.isFn K (.ref (ma K C m)) = true := ⟨eqO_ok (ba c).1, (ba c).2⟩
def ktB (K : PySem.W.Frag) (C : Addr) (ts : List String) : Bool := ts.all fun n => decide (PySem.W.kitOne K (.type n) (.ref C) = some false) && (decide (PySem.W.kitOne K (.ref C) (.type n) = some false) && PySem.W.notFirst K C (.type n))
theorem kt_ok {K : PySem.W.Frag} {C : Addr} {ts : List String} (c : ktB K C ts = true) : ∀ n ∈ ts, PySem.W.kitOne K (.type n) (.ref C) = some false ∧ PySem.W.kitOne K (.ref C) (.type n) = some false ∧ PySem.W.notFirst K C (.type n) = true := fun n hn => by
  obtain ⟨c1, c2⟩ := ba (List.all_eq_true.mp c n hn)
  obtain ⟨c2, c3⟩ := ba c2
  exact ⟨of_decide_eq_true c1, of_decide_eq_true c2, c3⟩
end Ha

set_option Elab.async false
set_option linter.all false
set_option maxRecDepth 100000
set_option maxHeartbeats 4000000
namespace Ht
open PySem L2 Lay He Hd Ha PySem.Spec PyProof.Rows LamX
/-! ### the Hook: own tests, defs by address, the tables of defs that make lambdas -/
abbrev AlB : Type := AlA × Bool
structure SaysB (fb : PySem.W.Frag → Bool) (fn : List DefA) (tf : List Defn) (h : Heap) (K : PySem.W.Frag) : Prop where
  a : obsA fb fn K = valA fn
  code : ∀ p ∈ tf, PySem.W.codeHdIn K (cT K p).1 (cT K p).2 = true
  out : ∀ p ∈ tf, K.lookup (cT K p).2 = none
  void : ∀ p ∈ tf, h.get? (cT K p).2 = some { cls := .none, data := .fields #[] }
def obsB (n : Nat) (fb : PySem.W.Frag → Bool) (fn : List DefA) (tf : List Defn) (g : Addr → Option Obj) : AlB := (obsA fb fn (frT g (asA g n)), tabsB g tf (frT g (asA g n)))
theorem saysB_of {n : Nat} {fb : PySem.W.Frag → Bool} {fn : List DefA} {tf : List Defn} {h : Heap} (e : obsB n fb fn tf h.get? = (valA fn, true)) : SaysB fb fn tf h (frT h.get? (asA h.get? n)) := by
  have e1 : obsA fb fn (frT h.get? (asA h.get? n)) = valA fn := congrArg (fun z : AlB => z.1) e
  have e2 : tabsB h.get? tf (frT h.get? (asA h.get? n)) = true := congrArg (fun z : AlB => z.2) e
  have at_ : ∀ p ∈ tf, PySem.W.codeHdIn (frT h.get? (asA h.get? n)) (cT (frT h.get? (asA h.get? n)) p).1 (cT (frT h.get? (asA h.get? n)) p).2 = true ∧ ∃ o, h.get? (cT (frT h.get? (asA h.get? n)) p).2 = some o ∧ emptyTab o = true := by
    intro p hp
    obtain ⟨c1, c2⟩ := ba (List.all_eq_true.mp e2 p hp)
    refine ⟨c1, ?_⟩
    cases q : h.get? (cT (frT h.get? (asA h.get? n)) p).2 with
    | none => rw [q] at c2; cases c2
    | some o => rw [q] at c2; exact ⟨o, rfl, c2⟩
  refine ⟨e1, fun p hp => (at_ p hp).1, fun p hp => ?_, fun p hp => ?_⟩
  · obtain ⟨_, o, q, z⟩ := at_ p hp
    exact frT_none q z
  · obtain ⟨_, o, q, z⟩ := at_ p hp
    rw [q, emptyTab_eq z]
def hookB (n : Nat) (fb : PySem.W.Frag → Bool) (fn : List DefA) (tf : List Defn) : PySem.W.Hook where
  α := AlB
  obs := fun s => obsB n fb fn tf s.heap.get?
  val := fun _ => (valA fn, true)
  says := fun _ h => ∃ K : PySem.W.Frag, K.In h ∧ SaysB fb fn tf h K
  of := fun _ _ e => ⟨_, frT_in, saysB_of e⟩
  keeps := fun _ _ _ ⟨K, hK, c⟩ k => ⟨K, PySem.W.Frag.In.keeps hK k, ⟨c.a, c.code, c.out, fun p hp => k _ _ (c.void p hp)⟩⟩
theorem obsB_eq {n : Nat} {fb : PySem.W.Frag → Bool} {fn : List DefA} {tf : List Defn} {g : Addr → Option Obj} {s : Shared} (h : ∀ a, g a = s.heap.get? a) : obsB n fb fn tf g = (hookB n fb fn tf).obs s := by
  have e : g = s.heap.get? := funext h
  rw [e] <;> rfl
/-- a def's code object -/
theorem code_at {K : PySem.W.Frag} {x qual : Str} {st : Stmt} {fd : FuncData} {p : Defn} (F : Fun K x qual st (fAd K p) fd) : fd.code = .ref (cT K p).1 := by
  obtain ⟨oc, od, kV, doc, pm, an, cdv, ct, osl, rfl, lk, hcd⟩ := F.ex
  obtain ⟨c, e⟩ := codeIn_ref hcd
  have z := codeOf_eq (p := p) lk e
  show cdv = .ref (codeOf K p)
  rw [z, e]
/-! ### the call with the script, tables empty -/
/-- what is told of the heap ahead of the call: the tables, perhaps the script -/
def Hs (ts : List Addr) (a : Addr) (z : Option HO) : Hp := fun b => if b ∈ ts then some (.tbl #[]) else if b = a then z else none
theorem hs_in {ts : List Addr} {a b : Addr} {z : Option HO} (h : b ∈ ts) : Hs ts a z b = some (.tbl #[]) := by
  unfold Hs
  rw [if_pos h]
theorem hs_out {ts : List Addr} {a b : Addr} {z : Option HO} (h : b ∉ ts) (n : b ≠ a) : Hs ts a z b = none := by
  unfold Hs
  rw [if_neg h, if_neg n]
theorem hs_at {ts : List Addr} {a : Addr} {z : Option HO} (h : a ∉ ts) : Hs ts a z a = z := by
  unfold Hs
  rw [if_neg h, if_pos rfl]
theorem call_tabs {P : Program} {w : World} {K : PySem.W.Frag} {mg mb : Str → Option Value} {k : Nat} {fa a : Addr} {ct : List (Addr × Addr)} {fd : FuncData} {x : Str} {sp : Sp} {s1 : Shared} {vs : List Value} {ns : List Int}
    (KX : K.In s1.heap) (hns : s1.heap.Ns mainGlobals mg) (hb : s1.heap.Ns builtinsNs mb) (hbb : ∀ x : Str, x ≠ "__name__" → mb x = bootBuiltins x)
    (hlim : s1.heap.NoLimit) (hg : s1.gens = #[])
    (void : ∀ p ∈ ct, s1.heap.get? p.2 = some { cls := .none, data := .fields #[] }) (out : ∀ p ∈ ct, K.lookup p.2 = none) (code : ∀ p ∈ ct, PySem.W.codeHdIn K p.1 p.2 = true)
    (hbm : ∃ (bm : Addr) (o : Obj), mg "__builtins__" = some (.ref bm) ∧ bm ≠ builtinsNs ∧ s1.heap.get? bm = some o ∧ o.cls = .type "module" ∧ o.dict = some builtinsNs ∧ o.data = .plain)
    (ha : s1.heap.get? a = some { cls := .type "list", data := .seq vs.toArray }) (hi : IntsAre vs ns)
    (hl : ns.length ≤ sizeLine) (hr : Room k callerA)
    (F : ∀ base : Heap, K.In base → base.Ns mainGlobals mg → (∀ p ∈ ct, TabB base mg p.1 p.2) → FnG P w K mg base CX0 k fa fd [x] sp)
    (hbind : ∀ (s : Shared) (u : Value), BindsTo s fd ⟨[u], []⟩ [(x, u)])
    (hsp : ∀ H : Hp, (∀ p ∈ ct, H p.2 = some (.tbl #[])) → SqL K H a (ns.map V.int) → sp [.ref a] H (fun v _ => v = .bl true) fun _ _ _ => False) :
    codeAny (model P w) callerA (.call (.ref fa) ⟨[.ref a], []⟩)
      (fun r s' => r = .ok (.ret (.bool true)) ∧ OldK s1.heap s'.heap ∧ s'.os = s1.os ∧ AllBare s'.gens) s1 := by
  obtain ⟨ts, ets⟩ : ∃ ts : List Addr, ts = ct.map (·.2) := ⟨_, rfl⟩
  have tin : ∀ p ∈ ct, p.2 ∈ ts := fun p hp => by rw [ets]; exact List.mem_map.mpr ⟨p, hp, rfl⟩
  have tof : ∀ b ∈ ts, ∃ p ∈ ct, p.2 = b := fun b hm => by rw [ets] at hm; exact List.mem_map.mp hm
  have tv : ∀ b ∈ ts, s1.heap.get? b = some { cls := .none, data := .fields #[] } := fun b hm => by
    obtain ⟨p, hp, rfl⟩ := tof b hm
    exact void p hp
  have an : a ∉ ts := fun z => by
    have q := (tv a z).symm.trans ha
    cases congrArg (fun o : Option Obj => o.map Obj.cls) q
  have rv := vals_ints hi
  have lv := hi.length
  have core : ∀ z : Option HO, (z = none ∨ (K.lookup a = none ∧ z = some (.frz { cls := .type "list", data := .seq vs.toArray } (.lst (ns.map V.int))))) → SqL K (Hs ts a z) a (ns.map V.int) →
      codeAny (model P w) callerA (.call (.ref fa) ⟨[.ref a], []⟩)
        (fun r s' => r = .ok (.ret (.bool true)) ∧ OldK s1.heap s'.heap ∧ s'.os = s1.os ∧ AllBare s'.gens) s1 := by
    intro z hz hS
    -- what is tracked
    have told : ∀ b u, Hs ts a z b = some u → (b ∈ ts ∧ u = .tbl #[]) ∨ (b = a ∧ z = some u) := fun b u e => by
      by_cases m : b ∈ ts
      · rw [hs_in m] at e
        exact .inl ⟨m, (Option.some.inj e).symm⟩
      · by_cases m2 : b = a
        · subst m2
          rw [hs_at m] at e
          exact .inr ⟨rfl, e⟩
        · rw [hs_out m m2] at e
          cases e
    have hok : HOk P w (Hs ts a z) s1.heap := fun b u e => by
      rcases told b u e with ⟨m, rfl⟩ | ⟨rfl, e2⟩
      · exact tv b m
      · rcases hz with rfl | ⟨_, rfl⟩
        · cases e2
        · cases e2
          exact ⟨ha, by rw [List.length_map]; exact hl, vs, _, rv, ha⟩
    have free : ∀ {b : Addr} {o : Obj}, s1.heap.get? b = some o → (∀ vs n, o.data ≠ .seq vs n) → (∀ fs, o.data ≠ .fields fs) → (hidT s1.heap (Hs ts a z)).get? b = some o := fun {b o} e n1 n2 => by
      refine hidT_get e ?_
      cases q : Hs ts a z b with
      | none => rfl
      | some u =>
        rcases told b u q with ⟨m, _⟩ | ⟨m, _⟩
        · rw [tv b m] at e
          cases e
          exact absurd rfl (n2 _)
        · rw [m, ha] at e
          cases e
          exact absurd rfl (n1 _ _)
    have nsK : ∀ {b : Addr} {m : Str → Option Value}, s1.heap.Ns b m → (hidT s1.heap (Hs ts a z)).Ns b m := by
      intro b m ⟨o, es, ep, e, d, r⟩
      exact ⟨o, es, ep, free e (fun _ _ z => by rw [d] at z; cases z) (fun _ z => by rw [d] at z; cases z), d, r⟩
    have kb : K.In (hidT s1.heap (Hs ts a z)) := by
      intro b o e
      refine hidT_get (KX b o e) ?_
      cases q : Hs ts a z b with
      | none => rfl
      | some u =>
        rcases told b u q with ⟨m, _⟩ | ⟨m, e2⟩
        · obtain ⟨p, hp, rfl⟩ := tof b m
          rw [out p hp] at e
          cases e
        · rcases hz with rfl | ⟨kn, _⟩
          · cases e2
          · rw [m, kn] at e
            cases e
    have tb : ∀ p ∈ ct, TabB (hidT s1.heap (Hs ts a z)) mg p.1 p.2 := fun p hp => by
      refine ⟨PySem.W.codeHd_of_K kb (code p hp), ?_, fun q => ?_⟩
      · obtain ⟨bm, o, b1, b2, b3, b4, b5, b6⟩ := hbm
        refine ⟨bm, o, b1, b2, fun q => ?_, fun q => ?_, free b3 (fun _ _ z => by rw [b6] at z; cases z) (fun _ z => by rw [b6] at z; cases z), b4, b5, b6⟩
        · obtain ⟨o2, es, ep, e, d, _⟩ := hns
          rw [q, e] at b3
          cases b3
          rw [d] at b6
          cases b6
        · rw [q, void p hp] at b3
          cases b3
          cases b6
      · obtain ⟨o2, es, ep, e, d, _⟩ := hns
        rw [q, void p hp] at e
        cases e
        cases d
    have hM : Mod K mg (hidT s1.heap (Hs ts a z)) := by
      obtain ⟨mc, h1, h2⟩ := hlim
      exact ⟨kb, nsK hns, ⟨mb, nsK hb, hbb⟩, ⟨mc, nsK h1, h2⟩⟩
    have e0 : Env0 P w K mg (hidT s1.heap (Hs ts a z)) callerA [] s1 (Hs ts a z) :=
      ⟨rfl, hM, fun b o e => of_hidT e, Nat.le_of_eq (hidT_size _ _), trivial, fun b hb => absurd (show b ∈ ([] : List Addr) from hb) (by simp), hok, .of_eq hg⟩
    refine codeAny_mono ((F _ kb (nsK hns) tb).run callerA [] s1 (Hs ts a z) ⟨[.ref a], []⟩ [.ref a] [.ref a] _ _ hr rfl e0 (hbind s1 (.ref a)) (.cons rfl .nil) (hsp _ (fun p hp => hs_in (tin p hp)) hS)) fun r s' h => ?_
    cases r with
    | error e => exact h.elim
    | ok fl =>
      cases fl with
      | next => exact False.elim h
      | brk => exact False.elim h
      | cont => exact False.elim h
      | ret u =>
        obtain ⟨v, H', os, bare, un, hok', r', q⟩ := h
        have q' : v = .bl true := q
        subst q'
        obtain rfl : u = Value.bool true := r'
        have same : ∀ b o, b ∉ ts → s1.heap.get? b = some o → s'.heap.get? b = some o := fun b o m e => by
          cases q : Hs ts a z b with
          | none => exact un.keep b o e q (fun z => nomatch (show b ∈ ([] : List Addr) from z)) (by simp)
          | some u =>
            rcases told b u q with ⟨m2, _⟩ | ⟨m2, e2⟩
            · exact absurd m2 m
            · rcases hz with rfl | ⟨_, rfl⟩
              · cases e2
              · cases e2
                obtain ⟨o1, _⟩ := hok b _ q
                obtain ⟨o2, _⟩ := hok' b _ (un.frzs b _ _ q)
                rw [e] at o1; cases o1
                exact o2
        have more : ∀ p ∈ ct, ∃ m : Array Value, s'.heap.get? p.2 = some { cls := .none, data := .fields m } := fun p hp => by
          obtain ⟨m, z⟩ := un.tbls p.2 #[] (hs_in (tin p hp))
          exact ⟨_, hok' p.2 _ z⟩
        refine ⟨rfl, ⟨fun b o e => ?_, fun b o e => ?_⟩, os, bare⟩
        · by_cases m : b ∈ ts
          · obtain ⟨p, hp, rfl⟩ := tof b m
            obtain ⟨fs, hf⟩ := more p hp
            rw [void p hp] at e
            cases e
            exact .inr (.inl ⟨((PySem.W.codeHd_of_K KX (code p hp)).tab (void p hp)).isCodeTable, rfl, #[], fs, rfl, by rw [Array.empty_append]; exact hf⟩)
          · exact .inl (same b o m e)
        · by_cases m : b ∈ ts
          · obtain ⟨p, hp, rfl⟩ := tof b m
            obtain ⟨fs, hf⟩ := more p hp
            exact ⟨_, hf⟩
          · exact ⟨o, same b o m e⟩
  cases hk : K.lookup a with
  | some o =>
    have e := KX a o hk
    rw [ha] at e
    cases e
    exact core none (.inl rfl) (.inr ⟨_, vs.toArray, _, hk, rfl, rfl, rfl, by rw [List.size_toArray, lv]; exact hl, by simpa using rv⟩)
  | none => exact core _ (.inr ⟨hk, rfl⟩) (.inl (.inr ⟨_, hs_at an⟩))
theorem walk_TE {l : PySem.W.OpenLaw} {n k : Nat} {q : Program} {loose : List Str} {XP : (Str → Option Value) → Heap → Prop} {YP : World → Heap → Prop} {d : DefRec} {x : Str}
    (hn : l.most = some n) (hn2 : n ≤ sizeLine) (hdf : d.params.defaults = []) (hr : Room k callerA)
    (F : ∀ (w : World) (mg : Str → Option Value) (fa : Addr) (h : Heap), YP w h → h.Ns mainGlobals mg → mg d.name = some (.ref fa) →
      ∃ (K : PySem.W.Frag) (fd : FuncData) (sp : Sp) (ct : List (Addr × Addr)), K.In h ∧
        (∀ p ∈ ct, h.get? p.2 = some { cls := .none, data := .fields #[] }) ∧ (∀ p ∈ ct, K.lookup p.2 = none) ∧ (∀ p ∈ ct, PySem.W.codeHdIn K p.1 p.2 = true) ∧
        (∀ (s : Shared) (u : Value), BindsTo s fd ⟨[u], []⟩ [(x, u)]) ∧
        (∀ (H : Hp) (a : Addr) (ns : List Int), ns.length ≤ n → (∀ p ∈ ct, H p.2 = some (.tbl #[])) → SqL K H a (ns.map V.int) → sp [.ref a] H (fun v _ => v = .bl true) fun _ _ _ => False) ∧
        ∀ base : Heap, K.In base → base.Ns mainGlobals mg → (∀ p ∈ ct, TabB base mg p.1 p.2) → FnG l.prog w K mg base CX0 k fa fd [x] sp) :
    PySem.W.WalkO q loose XP YP l.row.toRowW d [] (fun f vs => PySem.call f vs) := by
  refine Att.attach_call hn hdf fun w s0 s1 mg mb fa o pm cd doc a vs ns G Y ho hd hcd hmg hobj hints hlen hg => ?_
  obtain ⟨K, fd, sp, ct, KX, t1, t2, t3, hb, hsp, hF⟩ := F w mg fa _ Y G.T.g hmg
  exact call_tabs KX G.T.g G.T.b G.T.builtins G.T.nolimit hg t1 t2 t3 G.T.bmain hobj hints (Nat.le_trans hlen hn2) hr hF hb fun H hO hS => hsp H a ns hlen hO hS
end Ht

set_option Elab.async false
set_option linter.all false
set_option maxRecDepth 100000
set_option maxHeartbeats 0
namespace K12
open PySem L2 Lay He Hd Ha Own Ht
abbrev i_InvalidRenaming : Stmt := inClass (top 9) 0
def fnL : List DefA := [
  ⟨fun K => ga K "is_integer", "is_integer", "is_integer", s_is_integer⟩,
  ⟨fun K => ga K "is_name", "is_name", "is_name", s_is_name⟩,
  ⟨fun K => ga K "is_list", "is_list", "is_list", s_is_list⟩,
  ⟨fun K => ga K "in_order", "in_order", "in_order", s_in_order⟩,
  ⟨fun K => ga K "merged", "merged", "merged", s_merged⟩,
  ⟨fun K => ga K "is_distance", "is_distance", "is_distance", s_is_distance⟩,
  ⟨fun K => ga K "is_entry", "is_entry", "is_entry", s_is_entry⟩,
  ⟨fun K => ga K "is_renaming", "is_renaming", "is_renaming", s_is_renaming⟩,
  ⟨fun K => ga K "check_entries", "check_entries", "check_entries", s_check_entries⟩,
  ⟨fun K => ga K "normed", "normed", "normed", s_normed⟩,
  ⟨fun K => ga K "reach_of", "reach_of", "reach_of", s_reach_of⟩,
  ⟨fun K => ga K "check_reach", "check_reach", "check_reach", s_check_reach⟩,
  ⟨fun K => ga K "shifted", "shifted", "shifted", s_shifted⟩,
  ⟨fun K => ga K "lie_among", "lie_among", "lie_among", s_lie_among⟩,
  ⟨fun K => ga K "shifts_among", "shifts_among", "shifts_among", s_shifts_among⟩,
  ⟨fun K => ga K "_law_pot", "_law_pot", "_law_pot", s_l_pot⟩,
  ⟨fun K => ga K "_law_draw", "_law_draw", "_law_draw", s_l_draw⟩,
  ⟨fun K => ga K "_law_among", "_law_among", "_law_among", s_l_among⟩,
  ⟨fun K => ga K "_law_names", "_law_names", "_law_names", s_l_names⟩,
  ⟨fun K => ga K "_law_normed", "_law_normed", "_law_normed", s_l_normed⟩,
  ⟨fun K => ga K "_law_entries", "_law_entries", "_law_entries", s_l_entries⟩,
  ⟨fun K => ga K "_law_part", "_law_part", "_law_part", s_l_part⟩,
  ⟨fun K => ga K "_law_more", "_law_more", "_law_more", s_l_more⟩,
  ⟨fun K => ga K "_law_shifts", "_law_shifts", "_law_shifts", s_l_shifts⟩,
  ⟨fun K => ga K "_law_pair_right", "_law_pair_right", "_law_pair_right", s_l_pair_right⟩,
  ⟨fun K => ga K "_law_heard", "_law_heard", "_law_heard", s_l_heard⟩,
  ⟨fun K => ga K "_law_bad", "_law_bad", "_law_bad", s_l_bad⟩,
  ⟨fun K => ga K "_law_renamed_right", "_law_renamed_right", "_law_renamed_right", s_l_renamed_right⟩,
  ⟨fun K => ga K "_law_right", "_law_right", "_law_right", s_l_right⟩,
  ⟨fun K => ga K "law", "law", "law", s_law⟩,
  ⟨fun K => Kd.st K "of", "of", "Kind.of", s_Kind_of⟩,
  ⟨fun K => ma K (kc K) "entries", "entries", "Kind.entries", s_Kind_entries⟩,
  ⟨fun K => ma K (kc K) "names", "names", "Kind.names", s_Kind_names⟩,
  ⟨fun K => ma K (kc K) "shifts_in", "shifts_in", "Kind.shifts_in", s_Kind_shifts_in⟩,
  ⟨fun K => ma K (kc K) "renamed", "renamed", "Kind.renamed", s_Kind_renamed⟩,
  ⟨fun K => ma K (kc K) "__le__", "__le__", "Kind.__le__", s_Kind___le⟩,
  ⟨fun K => ma K (kc K) "__ge__", "__ge__", "Kind.__ge__", s_Kind___ge⟩,
  ⟨fun K => ma K (kc K) "__eq__", "__eq__", "Kind.__eq__", s_Kind___eq⟩,
  ⟨fun K => ma K (kc K) "__init__", "__init__", "Kind.__init__", s_Kind___init⟩,
  ⟨fun K => ma K (ga K "InvalidRenaming") "__init__", "__init__", "InvalidRenaming.__init__", i_InvalidRenaming⟩]
def faL : List He.Fa := [.free "len", .free "int", .free "abs", .free "max", .free "min", .free "divmod", .free "isinstance", .free "bool", .free "str", .free "repr", .free "range", .free "all", .free "any", .free "tuple", .free "list", .free "sorted", .free "set", .free "enumerate", .free "dict", .free "ValueError", .free "ValueError", .int "MOST_LETTERS" 8, .int "FARTHEST" 20, .int "FEWEST_ENTRIES" 2, .glo "is_integer", .glo "is_name", .glo "is_list", .glo "in_order", .glo "merged", .glo "is_distance", .glo "is_entry", .glo "is_renaming", .glo "check_entries", .glo "normed", .glo "reach_of", .glo "check_reach", .glo "shifted", .glo "lie_among", .glo "shifts_among", .glo "_law_pot", .glo "_law_draw", .glo "_law_among", .glo "_law_names", .glo "_law_normed", .glo "_law_entries", .glo "_law_part", .glo "_law_more", .glo "_law_shifts", .glo "_law_pair_right", .glo "_law_heard", .glo "_law_bad", .glo "_law_renamed_right", .glo "_law_right", .glo "law", .glo "Kind", .glo "InvalidRenaming", .glo "LineError", .cls "Kind", .mkr "Kind", .meth "Kind" "entries", .meth "Kind" "names", .meth "Kind" "shifts_in", .meth "Kind" "renamed", .noat "Kind" "_entries", .noat "Kind" "_reach", .noat "InvalidRenaming" "value"]
def inB (K : PySem.W.Frag) (x : Str) : Bool := eqO (PySem.W.findIn K (.ref (ga K x)) "__init__") (some (some (.ref (ma K (ga K x) "__init__")))) && decide (PySem.W.typeIn K (.ref (ma K (ga K x) "__init__")) = some (.type "function"))
def tfL : List He.Defn := [("_law_renamed_right", none)]
def tP (K : PySem.W.Frag) (i : Nat) : Addr := (cT K (tfL.getD i ("", none))).2
def fbL : List (PySem.W.Frag → Bool) := [
  fun K => faL.all fun f => f.ok K,
  fun K => crdB K (kc K),
  fun K => cstB K (kc K) "of",
  fun K => cviB K (kc K) "MOST_ENTRIES" 6,
  fun K => cviB K (kc K) "MOST_REACH" 3,
  fun K => dunB K (kc K) "__le__",
  fun K => dunB K (kc K) "__ge__",
  fun K => dunB K (kc K) "__eq__",
  fun K => clB K (ga K "InvalidRenaming") "ValueError.__new__" [.type "ValueError", .type "Exception", .type "BaseException", .type "object"],
  fun K => inB K "InvalidRenaming",
  fun K => decide (PySem.W.kitOne K (.ref (ga K "InvalidRenaming")) (.ref (ga K "LineError")) = some true),
  fun K => decide (PySem.W.kitOne K (.ref (ga K "InvalidRenaming")) (.type "ValueError") = some true),
  fun K => decide (PySem.W.exmOne K (.ref (ga K "InvalidRenaming")) (.ref (ga K "InvalidRenaming")) = some true),
  fun K => eqO (PySem.W.findIn K (.ref (kc K)) "__ne__") (some (some (.builtin "object.__ne__"))),
  fun K => decide (PySem.W.mroIn K (kc K) (.type "object") = some true),
  fun K => ktB K (kc K) Ty7,
  fun K => decide (PySem.W.kitOne K (.ref (kc K)) (.ref (kc K)) = some true),
  fun K => eqO (PySem.W.findIn K (.ref (kc K)) "__class__") (some (some (.builtin "object.__class__"))),
  fun K => decide (PySem.W.specialIn K (.builtin "object.__class__") "__get__" = some (some (.builtin "getset_descriptor.__get__"))),
  fun K => decide (PySem.W.takesIn K (.builtin "object.__class__") = some true)]
def fb (K : PySem.W.Frag) : Bool := fbL.all fun f => f K
abbrev R : PySem.W.OpenRow := PySem.W.OpenLaw.row PySem.Challenge.rw_twoeach_k12_kinds_held_and_renamed
abbrev hk : PySem.W.Hook := hookB 5 fb fnL tfL
def ob (s : PySem.W.SharedT) : AlB := obsB 5 fb fnL tfL (HandSHeadRun.getT s)
theorem ob_eq (s : PySem.W.SharedT) : ob s = hk.obs s.abs := obsB_eq (HandSHeadRun.getT_eq s)
def looseL : List PySem.Str := [("MOST_LETTERS" : PySem.Str), ("FARTHEST" : PySem.Str), ("FEWEST_ENTRIES" : PySem.Str), ("_wall" : PySem.Str), ("is_integer" : PySem.Str), ("is_name" : PySem.Str), ("is_list" : PySem.Str), ("LineError" : PySem.Str), ("InvalidEntries" : PySem.Str), ("InvalidRenaming" : PySem.Str), ("LimitError" : PySem.Str), ("TooMany" : PySem.Str), ("in_order" : PySem.Str), ("merged" : PySem.Str), ("is_distance" : PySem.Str), ("is_entry" : PySem.Str), ("is_renaming" : PySem.Str), ("check_entries" : PySem.Str), ("normed" : PySem.Str), ("reach_of" : PySem.Str), ("check_reach" : PySem.Str), ("shifted" : PySem.Str), ("lie_among" : PySem.Str), ("shifts_among" : PySem.Str), ("Kind" : PySem.Str), ("_law_pot" : PySem.Str), ("_law_draw" : PySem.Str), ("_law_among" : PySem.Str), ("_law_names" : PySem.Str), ("_law_normed" : PySem.Str), ("_law_entries" : PySem.Str), ("_law_part" : PySem.Str), ("_law_more" : PySem.Str), ("_law_shifts" : PySem.Str), ("_law_pair_right" : PySem.Str), ("_law_heard" : PySem.Str), ("_law_bad" : PySem.Str), ("_law_renamed_right" : PySem.Str), ("_law_right" : PySem.Str)]
end K12

set_option Elab.async false
set_option linter.all false
set_option maxRecDepth 100000
set_option maxHeartbeats 4000000
namespace K12
open PySem L2 Lay He Hd Ha Own Ht LamX
section
variable {K : PySem.W.Frag} {h : Heap} {mg : Str → Option Value}
theorem fb_at (c : fb K = true) (i : Nat) {f : PySem.W.Frag → Bool} (e : fbL[i]? = some f := by rfl) : f K = true := List.all_eq_true.mp (show (fbL.all fun f => f K) = true from c) f (List.mem_of_getElem? e)
theorem fa_at (c : fb K = true) (i : Nat) {f : He.Fa} (e : faL[i]? = some f := by rfl) : f.ok K = true := List.all_eq_true.mp (fb_at c 0) f (List.mem_of_getElem? e)
theorem ec_of {P : Program} {w : World} {base : Heap} {x qual : Str} {newId : String} {bmB : List Value} {st : Stmt} {fd : FuncData} {ps : List Str} {n : Nat} {mk : List V → List (Str × V)}
    (g : mg x = some (.ref (ga K x))) (cl : Exv.Cl K (ga K x) newId bmB) (hi : inB K x = true) (F : Fun K "__init__" qual st (ma K (ga K x) "__init__") fd)
    (hF : FnOk P w K mg base CX0 1 (ma K (ga K x) "__init__") fd ps (Exv.spI (ga K x) n mk))
    (h1 : ∀ (kV doc pm : Value) (an : Option Addr) (cdv ct : Value) (us : List Value), us.length = ps.length → bindArgs (PySem.W.fnOf "__init__" qual (defArgs st) (defBody st) (defScope st) .none kV doc pm an cdv ct) ⟨us, []⟩ = pure (ps.zip us))
    (h2 : ∀ (kV doc pm : Value) (an : Option Addr) (cdv ct : Value) (s0 : Value) (ws : List Value), ws.length = n → ∀ ks : List Str, ks ++ [("self" : Str)] = ps.reverse →
      bindArgs (PySem.W.fnOf "__init__" qual (defArgs st) (defBody st) (defScope st) .none kV doc pm an cdv ct) ⟨[s0], ks.zip ws⟩ = pure (ps.zip (s0 :: ws.reverse))) : Exv.Ec P w K mg base x (ga K x) newId bmB ps n mk := by
  obtain ⟨i1, i2⟩ := ba hi
  refine ⟨g, cl, _, fd, eqO_ok i1, of_decide_eq_true i2, hF, ?_, ?_⟩
  · obtain ⟨oc, od, kV, doc, pm, an, cdv, ct, osl, rfl, lk, hcd⟩ := F.ex
    exact h1 kV doc pm an cdv ct
  · obtain ⟨oc, od, kV, doc, pm, an, cdv, ct, osl, rfl, lk, hcd⟩ := F.ex
    exact fun s0 ws hl ks e => h2 kV doc pm an cdv ct s0 ws hl ks e
theorem kw2_of {K : PySem.W.Frag} {x qual : Str} {st : Stmt} {ps : List Str} {f : Addr} {fd : FuncData} (F : Fun K x qual st f fd)
    (h1 : ∀ (kV doc pm : Value) (an : Option Addr) (cdv ct : Value) (a b : Str) (u v : Value), ps = [a, b] → bindArgs (PySem.W.fnOf x qual (defArgs st) (defBody st) (defScope st) .none kV doc pm an cdv ct) ⟨[u], [(b, v)]⟩ = pure [(a, u), (b, v)]) : Rx.Kw2 fd ps := by
  intro a b u v e
  obtain ⟨oc, od, kV, doc, pm, an, cdv, ct, osl, rfl, lk, hcd⟩ := F.ex
  exact h1 kV doc pm an cdv ct a b u v e
theorem sci_InvalidRenaming : FnScope ["self", "value"] ["self", "value"] (defScope i_InvalidRenaming) := ⟨rfl, rfl, rfl, by decide +kernel, rfl, by decide +kernel, by decide +kernel⟩
theorem t_n_len (X : K.In h) (G : h.Ns mainGlobals mg) (cc : obsA fb fnL K = valA fnL) : mg "len" = none := by
  have c : fb K = true := says_b cc
  exact free_ok X G (fa_at c 0)
theorem t_n_int (X : K.In h) (G : h.Ns mainGlobals mg) (cc : obsA fb fnL K = valA fnL) : mg "int" = none := by
  have c : fb K = true := says_b cc
  exact free_ok X G (fa_at c 1)
theorem t_n_abs (X : K.In h) (G : h.Ns mainGlobals mg) (cc : obsA fb fnL K = valA fnL) : mg "abs" = none := by
  have c : fb K = true := says_b cc
  exact free_ok X G (fa_at c 2)
theorem t_n_max (X : K.In h) (G : h.Ns mainGlobals mg) (cc : obsA fb fnL K = valA fnL) : mg "max" = none := by
  have c : fb K = true := says_b cc
  exact free_ok X G (fa_at c 3)
theorem t_n_min (X : K.In h) (G : h.Ns mainGlobals mg) (cc : obsA fb fnL K = valA fnL) : mg "min" = none := by
  have c : fb K = true := says_b cc
  exact free_ok X G (fa_at c 4)
theorem t_n_divmod (X : K.In h) (G : h.Ns mainGlobals mg) (cc : obsA fb fnL K = valA fnL) : mg "divmod" = none := by
  have c : fb K = true := says_b cc
  exact free_ok X G (fa_at c 5)
theorem t_n_isinstance (X : K.In h) (G : h.Ns mainGlobals mg) (cc : obsA fb fnL K = valA fnL) : mg "isinstance" = none := by
  have c : fb K = true := says_b cc
  exact free_ok X G (fa_at c 6)
theorem t_n_bool (X : K.In h) (G : h.Ns mainGlobals mg) (cc : obsA fb fnL K = valA fnL) : mg "bool" = none := by
  have c : fb K = true := says_b cc
  exact free_ok X G (fa_at c 7)
theorem t_n_str (X : K.In h) (G : h.Ns mainGlobals mg) (cc : obsA fb fnL K = valA fnL) : mg "str" = none := by
  have c : fb K = true := says_b cc
  exact free_ok X G (fa_at c 8)
theorem t_n_repr (X : K.In h) (G : h.Ns mainGlobals mg) (cc : obsA fb fnL K = valA fnL) : mg "repr" = none := by
  have c : fb K = true := says_b cc
  exact free_ok X G (fa_at c 9)
theorem t_n_range (X : K.In h) (G : h.Ns mainGlobals mg) (cc : obsA fb fnL K = valA fnL) : mg "range" = none := by
  have c : fb K = true := says_b cc
  exact free_ok X G (fa_at c 10)
theorem t_n_all (X : K.In h) (G : h.Ns mainGlobals mg) (cc : obsA fb fnL K = valA fnL) : mg "all" = none := by
  have c : fb K = true := says_b cc
  exact free_ok X G (fa_at c 11)
theorem t_n_any (X : K.In h) (G : h.Ns mainGlobals mg) (cc : obsA fb fnL K = valA fnL) : mg "any" = none := by
  have c : fb K = true := says_b cc
  exact free_ok X G (fa_at c 12)
theorem t_n_tuple (X : K.In h) (G : h.Ns mainGlobals mg) (cc : obsA fb fnL K = valA fnL) : mg "tuple" = none := by
  have c : fb K = true := says_b cc
  exact free_ok X G (fa_at c 13)
theorem t_n_list (X : K.In h) (G : h.Ns mainGlobals mg) (cc : obsA fb fnL K = valA fnL) : mg "list" = none := by
  have c : fb K = true := says_b cc
  exact free_ok X G (fa_at c 14)
theorem t_n_sorted (X : K.In h) (G : h.Ns mainGlobals mg) (cc : obsA fb fnL K = valA fnL) : mg "sorted" = none := by
  have c : fb K = true := says_b cc
  exact free_ok X G (fa_at c 15)
theorem t_n_set (X : K.In h) (G : h.Ns mainGlobals mg) (cc : obsA fb fnL K = valA fnL) : mg "set" = none := by
  have c : fb K = true := says_b cc
  exact free_ok X G (fa_at c 16)
theorem t_n_enumerate (X : K.In h) (G : h.Ns mainGlobals mg) (cc : obsA fb fnL K = valA fnL) : mg "enumerate" = none := by
  have c : fb K = true := says_b cc
  exact free_ok X G (fa_at c 17)
theorem t_n_dict (X : K.In h) (G : h.Ns mainGlobals mg) (cc : obsA fb fnL K = valA fnL) : mg "dict" = none := by
  have c : fb K = true := says_b cc
  exact free_ok X G (fa_at c 18)
theorem t_n_ValueError (X : K.In h) (G : h.Ns mainGlobals mg) (cc : obsA fb fnL K = valA fnL) : mg "ValueError" = none := by
  have c : fb K = true := says_b cc
  exact free_ok X G (fa_at c 20)
theorem t_c_MOST_LETTERS (X : K.In h) (G : h.Ns mainGlobals mg) (cc : obsA fb fnL K = valA fnL) : ∃ u, mg "MOST_LETTERS" = some u ∧ RelV (.int 8) u := by
  have c : fb K = true := says_b cc
  obtain ⟨t, e⟩ := int_ok X G (fa_at c 21); exact ⟨_, e, t, rfl⟩
theorem t_c_FARTHEST (X : K.In h) (G : h.Ns mainGlobals mg) (cc : obsA fb fnL K = valA fnL) : ∃ u, mg "FARTHEST" = some u ∧ RelV (.int 20) u := by
  have c : fb K = true := says_b cc
  obtain ⟨t, e⟩ := int_ok X G (fa_at c 22); exact ⟨_, e, t, rfl⟩
theorem t_c_FEWEST_ENTRIES (X : K.In h) (G : h.Ns mainGlobals mg) (cc : obsA fb fnL K = valA fnL) : ∃ u, mg "FEWEST_ENTRIES" = some u ∧ RelV (.int 2) u := by
  have c : fb K = true := says_b cc
  obtain ⟨t, e⟩ := int_ok X G (fa_at c 23); exact ⟨_, e, t, rfl⟩
theorem t_S_is_integer (X : K.In h) (G : h.Ns mainGlobals mg) (cc : obsA fb fnL K = valA fnL) : Src K mg "is_integer" s_is_integer ["value"] := by
  have c : fb K = true := says_b cc
  obtain ⟨fd, F⟩ := says_d cc 0; obtain ⟨b1, b2⟩ := two_of (ps := ["value"]) F (fun _ _ _ _ _ _ us hl => match us, hl with | [_], _ => rfl) (fun _ _ _ _ _ _ p v e => by cases e; rfl); exact ⟨_, fd, F, glo_ok X G (fa_at c 24), b1, b2⟩
theorem t_S_is_name (X : K.In h) (G : h.Ns mainGlobals mg) (cc : obsA fb fnL K = valA fnL) : Src K mg "is_name" s_is_name ["value"] := by
  have c : fb K = true := says_b cc
  obtain ⟨fd, F⟩ := says_d cc 1; obtain ⟨b1, b2⟩ := two_of (ps := ["value"]) F (fun _ _ _ _ _ _ us hl => match us, hl with | [_], _ => rfl) (fun _ _ _ _ _ _ p v e => by cases e; rfl); exact ⟨_, fd, F, glo_ok X G (fa_at c 25), b1, b2⟩
theorem t_S_is_list (X : K.In h) (G : h.Ns mainGlobals mg) (cc : obsA fb fnL K = valA fnL) : Src K mg "is_list" s_is_list ["value"] := by
  have c : fb K = true := says_b cc
  obtain ⟨fd, F⟩ := says_d cc 2; obtain ⟨b1, b2⟩ := two_of (ps := ["value"]) F (fun _ _ _ _ _ _ us hl => match us, hl with | [_], _ => rfl) (fun _ _ _ _ _ _ p v e => by cases e; rfl); exact ⟨_, fd, F, glo_ok X G (fa_at c 26), b1, b2⟩
theorem t_S_in_order (X : K.In h) (G : h.Ns mainGlobals mg) (cc : obsA fb fnL K = valA fnL) : Src K mg "in_order" s_in_order ["rows"] := by
  have c : fb K = true := says_b cc
  obtain ⟨fd, F⟩ := says_d cc 3; obtain ⟨b1, b2⟩ := two_of (ps := ["rows"]) F (fun _ _ _ _ _ _ us hl => match us, hl with | [_], _ => rfl) (fun _ _ _ _ _ _ p v e => by cases e; rfl); exact ⟨_, fd, F, glo_ok X G (fa_at c 27), b1, b2⟩
theorem t_S_merged (X : K.In h) (G : h.Ns mainGlobals mg) (cc : obsA fb fnL K = valA fnL) : Src K mg "merged" s_merged ["one", "other"] := by
  have c : fb K = true := says_b cc
  obtain ⟨fd, F⟩ := says_d cc 4; obtain ⟨b1, b2⟩ := two_of (ps := ["one", "other"]) F (fun _ _ _ _ _ _ us hl => match us, hl with | [_, _], _ => rfl) (fun _ _ _ _ _ _ p v e => by cases e); exact ⟨_, fd, F, glo_ok X G (fa_at c 28), b1, b2⟩
theorem t_S_is_distance (X : K.In h) (G : h.Ns mainGlobals mg) (cc : obsA fb fnL K = valA fnL) : Src K mg "is_distance" s_is_distance ["value"] := by
  have c : fb K = true := says_b cc
  obtain ⟨fd, F⟩ := says_d cc 5; obtain ⟨b1, b2⟩ := two_of (ps := ["value"]) F (fun _ _ _ _ _ _ us hl => match us, hl with | [_], _ => rfl) (fun _ _ _ _ _ _ p v e => by cases e; rfl); exact ⟨_, fd, F, glo_ok X G (fa_at c 29), b1, b2⟩
theorem t_S_is_entry (X : K.In h) (G : h.Ns mainGlobals mg) (cc : obsA fb fnL K = valA fnL) : Src K mg "is_entry" s_is_entry ["value"] := by
  have c : fb K = true := says_b cc
  obtain ⟨fd, F⟩ := says_d cc 6; obtain ⟨b1, b2⟩ := two_of (ps := ["value"]) F (fun _ _ _ _ _ _ us hl => match us, hl with | [_], _ => rfl) (fun _ _ _ _ _ _ p v e => by cases e; rfl); exact ⟨_, fd, F, glo_ok X G (fa_at c 30), b1, b2⟩
theorem t_S_is_renaming (X : K.In h) (G : h.Ns mainGlobals mg) (cc : obsA fb fnL K = valA fnL) : Src K mg "is_renaming" s_is_renaming ["value"] := by
  have c : fb K = true := says_b cc
  obtain ⟨fd, F⟩ := says_d cc 7; obtain ⟨b1, b2⟩ := two_of (ps := ["value"]) F (fun _ _ _ _ _ _ us hl => match us, hl with | [_], _ => rfl) (fun _ _ _ _ _ _ p v e => by cases e; rfl); exact ⟨_, fd, F, glo_ok X G (fa_at c 31), b1, b2⟩
theorem t_S_check_entries (X : K.In h) (G : h.Ns mainGlobals mg) (cc : obsA fb fnL K = valA fnL) : Src K mg "check_entries" s_check_entries ["entries"] := by
  have c : fb K = true := says_b cc
  obtain ⟨fd, F⟩ := says_d cc 8; obtain ⟨b1, b2⟩ := two_of (ps := ["entries"]) F (fun _ _ _ _ _ _ us hl => match us, hl with | [_], _ => rfl) (fun _ _ _ _ _ _ p v e => by cases e; rfl); exact ⟨_, fd, F, glo_ok X G (fa_at c 32), b1, b2⟩
theorem t_S_normed (X : K.In h) (G : h.Ns mainGlobals mg) (cc : obsA fb fnL K = valA fnL) : Src K mg "normed" s_normed ["entries"] := by
  have c : fb K = true := says_b cc
  obtain ⟨fd, F⟩ := says_d cc 9; obtain ⟨b1, b2⟩ := two_of (ps := ["entries"]) F (fun _ _ _ _ _ _ us hl => match us, hl with | [_], _ => rfl) (fun _ _ _ _ _ _ p v e => by cases e; rfl); exact ⟨_, fd, F, glo_ok X G (fa_at c 33), b1, b2⟩
theorem t_S_reach_of (X : K.In h) (G : h.Ns mainGlobals mg) (cc : obsA fb fnL K = valA fnL) : Src K mg "reach_of" s_reach_of ["entries"] := by
  have c : fb K = true := says_b cc
  obtain ⟨fd, F⟩ := says_d cc 10; obtain ⟨b1, b2⟩ := two_of (ps := ["entries"]) F (fun _ _ _ _ _ _ us hl => match us, hl with | [_], _ => rfl) (fun _ _ _ _ _ _ p v e => by cases e; rfl); exact ⟨_, fd, F, glo_ok X G (fa_at c 34), b1, b2⟩
theorem t_S_check_reach (X : K.In h) (G : h.Ns mainGlobals mg) (cc : obsA fb fnL K = valA fnL) : Src K mg "check_reach" s_check_reach ["reach"] := by
  have c : fb K = true := says_b cc
  obtain ⟨fd, F⟩ := says_d cc 11; obtain ⟨b1, b2⟩ := two_of (ps := ["reach"]) F (fun _ _ _ _ _ _ us hl => match us, hl with | [_], _ => rfl) (fun _ _ _ _ _ _ p v e => by cases e; rfl); exact ⟨_, fd, F, glo_ok X G (fa_at c 35), b1, b2⟩
theorem t_S_shifted (X : K.In h) (G : h.Ns mainGlobals mg) (cc : obsA fb fnL K = valA fnL) : Src K mg "shifted" s_shifted ["entries", "shift"] := by
  have c : fb K = true := says_b cc
  obtain ⟨fd, F⟩ := says_d cc 12; obtain ⟨b1, b2⟩ := two_of (ps := ["entries", "shift"]) F (fun _ _ _ _ _ _ us hl => match us, hl with | [_, _], _ => rfl) (fun _ _ _ _ _ _ p v e => by cases e); exact ⟨_, fd, F, glo_ok X G (fa_at c 36), b1, b2⟩
theorem t_S_lie_among (X : K.In h) (G : h.Ns mainGlobals mg) (cc : obsA fb fnL K = valA fnL) : Src K mg "lie_among" s_lie_among ["entries", "others"] := by
  have c : fb K = true := says_b cc
  obtain ⟨fd, F⟩ := says_d cc 13; obtain ⟨b1, b2⟩ := two_of (ps := ["entries", "others"]) F (fun _ _ _ _ _ _ us hl => match us, hl with | [_, _], _ => rfl) (fun _ _ _ _ _ _ p v e => by cases e); exact ⟨_, fd, F, glo_ok X G (fa_at c 37), b1, b2⟩
theorem t_S_shifts_among (X : K.In h) (G : h.Ns mainGlobals mg) (cc : obsA fb fnL K = valA fnL) : Src K mg "shifts_among" s_shifts_among ["entries", "others"] := by
  have c : fb K = true := says_b cc
  obtain ⟨fd, F⟩ := says_d cc 14; obtain ⟨b1, b2⟩ := two_of (ps := ["entries", "others"]) F (fun _ _ _ _ _ _ us hl => match us, hl with | [_, _], _ => rfl) (fun _ _ _ _ _ _ p v e => by cases e); exact ⟨_, fd, F, glo_ok X G (fa_at c 38), b1, b2⟩
theorem t_S_l_pot (X : K.In h) (G : h.Ns mainGlobals mg) (cc : obsA fb fnL K = valA fnL) : Src K mg "_law_pot" s_l_pot ["_law_script", "_law_k"] := by
  have c : fb K = true := says_b cc
  obtain ⟨fd, F⟩ := says_d cc 15; obtain ⟨b1, b2⟩ := two_of (ps := ["_law_script", "_law_k"]) F (fun _ _ _ _ _ _ us hl => match us, hl with | [_, _], _ => rfl) (fun _ _ _ _ _ _ p v e => by cases e); exact ⟨_, fd, F, glo_ok X G (fa_at c 39), b1, b2⟩
theorem t_S_l_draw (X : K.In h) (G : h.Ns mainGlobals mg) (cc : obsA fb fnL K = valA fnL) : Src K mg "_law_draw" s_l_draw ["_law_pot_here", "_law_many"] := by
  have c : fb K = true := says_b cc
  obtain ⟨fd, F⟩ := says_d cc 16; obtain ⟨b1, b2⟩ := two_of (ps := ["_law_pot_here", "_law_many"]) F (fun _ _ _ _ _ _ us hl => match us, hl with | [_, _], _ => rfl) (fun _ _ _ _ _ _ p v e => by cases e); exact ⟨_, fd, F, glo_ok X G (fa_at c 40), b1, b2⟩
theorem t_S_l_among (X : K.In h) (G : h.Ns mainGlobals mg) (cc : obsA fb fnL K = valA fnL) : Src K mg "_law_among" s_l_among ["_law_pot_here", "_law_some"] := by
  have c : fb K = true := says_b cc
  obtain ⟨fd, F⟩ := says_d cc 17; obtain ⟨b1, b2⟩ := two_of (ps := ["_law_pot_here", "_law_some"]) F (fun _ _ _ _ _ _ us hl => match us, hl with | [_, _], _ => rfl) (fun _ _ _ _ _ _ p v e => by cases e); exact ⟨_, fd, F, glo_ok X G (fa_at c 41), b1, b2⟩
theorem t_S_l_names (X : K.In h) (G : h.Ns mainGlobals mg) (cc : obsA fb fnL K = valA fnL) : Src K mg "_law_names" s_l_names ["_law_pot_here", "_law_many"] := by
  have c : fb K = true := says_b cc
  obtain ⟨fd, F⟩ := says_d cc 18; obtain ⟨b1, b2⟩ := two_of (ps := ["_law_pot_here", "_law_many"]) F (fun _ _ _ _ _ _ us hl => match us, hl with | [_, _], _ => rfl) (fun _ _ _ _ _ _ p v e => by cases e); exact ⟨_, fd, F, glo_ok X G (fa_at c 42), b1, b2⟩
theorem t_S_l_normed (X : K.In h) (G : h.Ns mainGlobals mg) (cc : obsA fb fnL K = valA fnL) : Src K mg "_law_normed" s_l_normed ["_law_some"] := by
  have c : fb K = true := says_b cc
  obtain ⟨fd, F⟩ := says_d cc 19; obtain ⟨b1, b2⟩ := two_of (ps := ["_law_some"]) F (fun _ _ _ _ _ _ us hl => match us, hl with | [_], _ => rfl) (fun _ _ _ _ _ _ p v e => by cases e; rfl); exact ⟨_, fd, F, glo_ok X G (fa_at c 43), b1, b2⟩
theorem t_S_l_entries (X : K.In h) (G : h.Ns mainGlobals mg) (cc : obsA fb fnL K = valA fnL) : Src K mg "_law_entries" s_l_entries ["_law_pot_here", "_law_tags"] := by
  have c : fb K = true := says_b cc
  obtain ⟨fd, F⟩ := says_d cc 20; obtain ⟨b1, b2⟩ := two_of (ps := ["_law_pot_here", "_law_tags"]) F (fun _ _ _ _ _ _ us hl => match us, hl with | [_, _], _ => rfl) (fun _ _ _ _ _ _ p v e => by cases e); exact ⟨_, fd, F, glo_ok X G (fa_at c 44), b1, b2⟩
theorem t_S_l_part (X : K.In h) (G : h.Ns mainGlobals mg) (cc : obsA fb fnL K = valA fnL) : Src K mg "_law_part" s_l_part ["_law_pot_here", "_law_some"] := by
  have c : fb K = true := says_b cc
  obtain ⟨fd, F⟩ := says_d cc 21; obtain ⟨b1, b2⟩ := two_of (ps := ["_law_pot_here", "_law_some"]) F (fun _ _ _ _ _ _ us hl => match us, hl with | [_, _], _ => rfl) (fun _ _ _ _ _ _ p v e => by cases e); exact ⟨_, fd, F, glo_ok X G (fa_at c 45), b1, b2⟩
theorem t_S_l_more (X : K.In h) (G : h.Ns mainGlobals mg) (cc : obsA fb fnL K = valA fnL) : Src K mg "_law_more" s_l_more ["_law_pot_here", "_law_some", "_law_tags"] := by
  have c : fb K = true := says_b cc
  obtain ⟨fd, F⟩ := says_d cc 22; obtain ⟨b1, b2⟩ := two_of (ps := ["_law_pot_here", "_law_some", "_law_tags"]) F (fun _ _ _ _ _ _ us hl => match us, hl with | [_, _, _], _ => rfl) (fun _ _ _ _ _ _ p v e => by cases e); exact ⟨_, fd, F, glo_ok X G (fa_at c 46), b1, b2⟩
theorem t_S_l_shifts (X : K.In h) (G : h.Ns mainGlobals mg) (cc : obsA fb fnL K = valA fnL) : Src K mg "_law_shifts" s_l_shifts ["_law_some", "_law_others"] := by
  have c : fb K = true := says_b cc
  obtain ⟨fd, F⟩ := says_d cc 23; obtain ⟨b1, b2⟩ := two_of (ps := ["_law_some", "_law_others"]) F (fun _ _ _ _ _ _ us hl => match us, hl with | [_, _], _ => rfl) (fun _ _ _ _ _ _ p v e => by cases e); exact ⟨_, fd, F, glo_ok X G (fa_at c 47), b1, b2⟩
theorem t_S_l_pair_right (X : K.In h) (G : h.Ns mainGlobals mg) (cc : obsA fb fnL K = valA fnL) : Src K mg "_law_pair_right" s_l_pair_right ["_law_some", "_law_others"] := by
  have c : fb K = true := says_b cc
  obtain ⟨fd, F⟩ := says_d cc 24; obtain ⟨b1, b2⟩ := two_of (ps := ["_law_some", "_law_others"]) F (fun _ _ _ _ _ _ us hl => match us, hl with | [_, _], _ => rfl) (fun _ _ _ _ _ _ p v e => by cases e); exact ⟨_, fd, F, glo_ok X G (fa_at c 48), b1, b2⟩
theorem t_S_l_heard (X : K.In h) (G : h.Ns mainGlobals mg) (cc : obsA fb fnL K = valA fnL) : Src K mg "_law_heard" s_l_heard ["_law_call"] := by
  have c : fb K = true := says_b cc
  obtain ⟨fd, F⟩ := says_d cc 25; obtain ⟨b1, b2⟩ := two_of (ps := ["_law_call"]) F (fun _ _ _ _ _ _ us hl => match us, hl with | [_], _ => rfl) (fun _ _ _ _ _ _ p v e => by cases e; rfl); exact ⟨_, fd, F, glo_ok X G (fa_at c 49), b1, b2⟩
theorem t_S_l_bad (X : K.In h) (G : h.Ns mainGlobals mg) (cc : obsA fb fnL K = valA fnL) : Src K mg "_law_bad" s_l_bad ["_law_pot_here", "_law_known", "_law_tags"] := by
  have c : fb K = true := says_b cc
  obtain ⟨fd, F⟩ := says_d cc 26; obtain ⟨b1, b2⟩ := two_of (ps := ["_law_pot_here", "_law_known", "_law_tags"]) F (fun _ _ _ _ _ _ us hl => match us, hl with | [_, _, _], _ => rfl) (fun _ _ _ _ _ _ p v e => by cases e); exact ⟨_, fd, F, glo_ok X G (fa_at c 50), b1, b2⟩
theorem t_S_l_renamed_right (X : K.In h) (G : h.Ns mainGlobals mg) (cc : obsA fb fnL K = valA fnL) : Src K mg "_law_renamed_right" s_l_renamed_right ["_law_pot_here", "_law_some", "_law_tags"] := by
  have c : fb K = true := says_b cc
  obtain ⟨fd, F⟩ := says_d cc 27; obtain ⟨b1, b2⟩ := two_of (ps := ["_law_pot_here", "_law_some", "_law_tags"]) F (fun _ _ _ _ _ _ us hl => match us, hl with | [_, _, _], _ => rfl) (fun _ _ _ _ _ _ p v e => by cases e); exact ⟨_, fd, F, glo_ok X G (fa_at c 51), b1, b2⟩
theorem t_S_l_right (X : K.In h) (G : h.Ns mainGlobals mg) (cc : obsA fb fnL K = valA fnL) : Src K mg "_law_right" s_l_right ["_law_pot_here"] := by
  have c : fb K = true := says_b cc
  obtain ⟨fd, F⟩ := says_d cc 28; obtain ⟨b1, b2⟩ := two_of (ps := ["_law_pot_here"]) F (fun _ _ _ _ _ _ us hl => match us, hl with | [_], _ => rfl) (fun _ _ _ _ _ _ p v e => by cases e; rfl); exact ⟨_, fd, F, glo_ok X G (fa_at c 52), b1, b2⟩
theorem t_S_law (X : K.In h) (G : h.Ns mainGlobals mg) (cc : obsA fb fnL K = valA fnL) : Src K mg "law" s_law ["_law_script"] := by
  have c : fb K = true := says_b cc
  obtain ⟨fd, F⟩ := says_d cc 29; obtain ⟨b1, b2⟩ := two_of (ps := ["_law_script"]) F (fun _ _ _ _ _ _ us hl => match us, hl with | [_], _ => rfl) (fun _ _ _ _ _ _ p v e => by cases e; rfl); exact ⟨_, fd, F, glo_ok X G (fa_at c 53), b1, b2⟩
theorem t_g_Kind (X : K.In h) (G : h.Ns mainGlobals mg) (cc : obsA fb fnL K = valA fnL) : mg "Kind" = some (.ref (kc K)) := by
  have c : fb K = true := says_b cc
  exact glo_ok X G (fa_at c 54)
theorem t_cls (X : K.In h) (G : h.Ns mainGlobals mg) (cc : obsA fb fnL K = valA fnL) : Cls K (kc K) := by
  have c : fb K = true := says_b cc
  exact cls_ok (x := "Kind") (fa_at c 57)
theorem t_maker (X : K.In h) (G : h.Ns mainGlobals mg) (cc : obsA fb fnL K = valA fnL) : Mk K (kc K) (He.ma K (kc K) "__init__") := by
  have c : fb K = true := says_b cc
  exact mkr_ok (x := "Kind") (fa_at c 58)
theorem t_cr (X : K.In h) (G : h.Ns mainGlobals mg) (cc : obsA fb fnL K = valA fnL) : ∃ mc, ClX.CRead K (kc K) mc ∧ (∃ p, CSta K (kc K) mc "of" p (Kd.st K "of")) ∧ (∃ u, ClX.CVal K (kc K) mc "MOST_ENTRIES" (.int 6) u) ∧ (∃ u, ClX.CVal K (kc K) mc "MOST_REACH" (.int 3) u) := by
  have c : fb K = true := says_b cc
  obtain ⟨s1, s2, s3⟩ := cst_ok (C := kc K) (m := "of") (fb_at c 2)
  exact ⟨_, crd_ok (fb_at c 1), ⟨_, s1, s2, s3⟩, cvi_ok (fb_at c 3), cvi_ok (fb_at c 4)⟩
theorem t_m_entries (X : K.In h) (G : h.Ns mainGlobals mg) (cc : obsA fb fnL K = valA fnL) : Meth K (kc K) "entries" (He.ma K (kc K) "entries") := by
  have c : fb K = true := says_b cc
  exact meth_ok (x := "Kind") (m := "entries") (fa_at c 59)
theorem t_m_names (X : K.In h) (G : h.Ns mainGlobals mg) (cc : obsA fb fnL K = valA fnL) : Meth K (kc K) "names" (He.ma K (kc K) "names") := by
  have c : fb K = true := says_b cc
  exact meth_ok (x := "Kind") (m := "names") (fa_at c 60)
theorem t_m_shifts_in (X : K.In h) (G : h.Ns mainGlobals mg) (cc : obsA fb fnL K = valA fnL) : Meth K (kc K) "shifts_in" (He.ma K (kc K) "shifts_in") := by
  have c : fb K = true := says_b cc
  exact meth_ok (x := "Kind") (m := "shifts_in") (fa_at c 61)
theorem t_m_renamed (X : K.In h) (G : h.Ns mainGlobals mg) (cc : obsA fb fnL K = valA fnL) : Meth K (kc K) "renamed" (He.ma K (kc K) "renamed") := by
  have c : fb K = true := says_b cc
  exact meth_ok (x := "Kind") (m := "renamed") (fa_at c 62)
theorem t_f___le__ (X : K.In h) (G : h.Ns mainGlobals mg) (cc : obsA fb fnL K = valA fnL) : PySem.W.findIn K (.ref (kc K)) "__le__" = some (some (.ref (He.ma K (kc K) "__le__"))) := by
  have c : fb K = true := says_b cc
  exact (dun_ok (C := kc K) (m := "__le__") (fb_at c 5)).1
theorem t_i___le__ (X : K.In h) (G : h.Ns mainGlobals mg) (cc : obsA fb fnL K = valA fnL) : PySem.W.isFn K (.ref (He.ma K (kc K) "__le__")) = true := by
  have c : fb K = true := says_b cc
  exact (dun_ok (C := kc K) (m := "__le__") (fb_at c 5)).2
theorem t_f___ge__ (X : K.In h) (G : h.Ns mainGlobals mg) (cc : obsA fb fnL K = valA fnL) : PySem.W.findIn K (.ref (kc K)) "__ge__" = some (some (.ref (He.ma K (kc K) "__ge__"))) := by
  have c : fb K = true := says_b cc
  exact (dun_ok (C := kc K) (m := "__ge__") (fb_at c 6)).1
theorem t_i___ge__ (X : K.In h) (G : h.Ns mainGlobals mg) (cc : obsA fb fnL K = valA fnL) : PySem.W.isFn K (.ref (He.ma K (kc K) "__ge__")) = true := by
  have c : fb K = true := says_b cc
  exact (dun_ok (C := kc K) (m := "__ge__") (fb_at c 6)).2
theorem t_f___eq__ (X : K.In h) (G : h.Ns mainGlobals mg) (cc : obsA fb fnL K = valA fnL) : PySem.W.findIn K (.ref (kc K)) "__eq__" = some (some (.ref (He.ma K (kc K) "__eq__"))) := by
  have c : fb K = true := says_b cc
  exact (dun_ok (C := kc K) (m := "__eq__") (fb_at c 7)).1
theorem t_i___eq__ (X : K.In h) (G : h.Ns mainGlobals mg) (cc : obsA fb fnL K = valA fnL) : PySem.W.isFn K (.ref (He.ma K (kc K) "__eq__")) = true := by
  have c : fb K = true := says_b cc
  exact (dun_ok (C := kc K) (m := "__eq__") (fb_at c 7)).2
theorem t_ne (X : K.In h) (G : h.Ns mainGlobals mg) (cc : obsA fb fnL K = valA fnL) : PySem.W.findIn K (.ref (kc K)) "__ne__" = some (some (.builtin "object.__ne__")) := by
  have c : fb K = true := says_b cc
  exact eqO_ok (fb_at c 13)
theorem t_mo (X : K.In h) (G : h.Ns mainGlobals mg) (cc : obsA fb fnL K = valA fnL) : PySem.W.mroIn K (kc K) (.type "object") = some true := by
  have c : fb K = true := says_b cc
  exact of_decide_eq_true (fb_at c 14)
theorem t_no_entries (X : K.In h) (G : h.Ns mainGlobals mg) (cc : obsA fb fnL K = valA fnL) : NoAttr K (kc K) "_entries" := by
  have c : fb K = true := says_b cc
  exact noat_ok (x := "Kind") (f := "_entries") (fa_at c 63)
theorem t_no_reach (X : K.In h) (G : h.Ns mainGlobals mg) (cc : obsA fb fnL K = valA fnL) : NoAttr K (kc K) "_reach" := by
  have c : fb K = true := says_b cc
  exact noat_ok (x := "Kind") (f := "_reach") (fa_at c 64)
theorem t_M_of (X : K.In h) (G : h.Ns mainGlobals mg) (cc : obsA fb fnL K = valA fnL) : Ms K "of" "Kind.of" s_Kind_of (Kd.st K "of") ["entries"] := by
  have c : fb K = true := says_b cc
  obtain ⟨fd, F⟩ := says_d cc 30; obtain ⟨b1, b2⟩ := two_of (ps := ["entries"]) F (fun _ _ _ _ _ _ us hl => match us, hl with | [_], _ => rfl) (fun _ _ _ _ _ _ p v e => by cases e; rfl); exact ⟨fd, F, b1, b2, kw2_of (ps := ["entries"]) F (fun _ _ _ _ _ _ a b u v e => by cases e)⟩
theorem t_M_entries (X : K.In h) (G : h.Ns mainGlobals mg) (cc : obsA fb fnL K = valA fnL) : Ms K "entries" "Kind.entries" s_Kind_entries (He.ma K (kc K) "entries") ["self"] := by
  have c : fb K = true := says_b cc
  obtain ⟨fd, F⟩ := says_d cc 31; obtain ⟨b1, b2⟩ := two_of (ps := ["self"]) F (fun _ _ _ _ _ _ us hl => match us, hl with | [_], _ => rfl) (fun _ _ _ _ _ _ p v e => by cases e; rfl); exact ⟨fd, F, b1, b2, kw2_of (ps := ["self"]) F (fun _ _ _ _ _ _ a b u v e => by cases e)⟩
theorem t_M_names (X : K.In h) (G : h.Ns mainGlobals mg) (cc : obsA fb fnL K = valA fnL) : Ms K "names" "Kind.names" s_Kind_names (He.ma K (kc K) "names") ["self"] := by
  have c : fb K = true := says_b cc
  obtain ⟨fd, F⟩ := says_d cc 32; obtain ⟨b1, b2⟩ := two_of (ps := ["self"]) F (fun _ _ _ _ _ _ us hl => match us, hl with | [_], _ => rfl) (fun _ _ _ _ _ _ p v e => by cases e; rfl); exact ⟨fd, F, b1, b2, kw2_of (ps := ["self"]) F (fun _ _ _ _ _ _ a b u v e => by cases e)⟩
theorem t_M_shifts_in (X : K.In h) (G : h.Ns mainGlobals mg) (cc : obsA fb fnL K = valA fnL) : Ms K "shifts_in" "Kind.shifts_in" s_Kind_shifts_in (He.ma K (kc K) "shifts_in") ["self", "other"] := by
  have c : fb K = true := says_b cc
  obtain ⟨fd, F⟩ := says_d cc 33; obtain ⟨b1, b2⟩ := two_of (ps := ["self", "other"]) F (fun _ _ _ _ _ _ us hl => match us, hl with | [_, _], _ => rfl) (fun _ _ _ _ _ _ p v e => by cases e); exact ⟨fd, F, b1, b2, kw2_of (ps := ["self", "other"]) F (fun _ _ _ _ _ _ a b u v e => by cases e; rfl)⟩
theorem t_M_renamed (X : K.In h) (G : h.Ns mainGlobals mg) (cc : obsA fb fnL K = valA fnL) : Ms K "renamed" "Kind.renamed" s_Kind_renamed (He.ma K (kc K) "renamed") ["self", "names"] := by
  have c : fb K = true := says_b cc
  obtain ⟨fd, F⟩ := says_d cc 34; obtain ⟨b1, b2⟩ := two_of (ps := ["self", "names"]) F (fun _ _ _ _ _ _ us hl => match us, hl with | [_, _], _ => rfl) (fun _ _ _ _ _ _ p v e => by cases e); exact ⟨fd, F, b1, b2, kw2_of (ps := ["self", "names"]) F (fun _ _ _ _ _ _ a b u v e => by cases e; rfl)⟩
theorem t_M___le__ (X : K.In h) (G : h.Ns mainGlobals mg) (cc : obsA fb fnL K = valA fnL) : Ms K "__le__" "Kind.__le__" s_Kind___le (He.ma K (kc K) "__le__") ["self", "other"] := by
  have c : fb K = true := says_b cc
  obtain ⟨fd, F⟩ := says_d cc 35; obtain ⟨b1, b2⟩ := two_of (ps := ["self", "other"]) F (fun _ _ _ _ _ _ us hl => match us, hl with | [_, _], _ => rfl) (fun _ _ _ _ _ _ p v e => by cases e); exact ⟨fd, F, b1, b2, kw2_of (ps := ["self", "other"]) F (fun _ _ _ _ _ _ a b u v e => by cases e; rfl)⟩
theorem t_M___ge__ (X : K.In h) (G : h.Ns mainGlobals mg) (cc : obsA fb fnL K = valA fnL) : Ms K "__ge__" "Kind.__ge__" s_Kind___ge (He.ma K (kc K) "__ge__") ["self", "other"] := by
  have c : fb K = true := says_b cc
  obtain ⟨fd, F⟩ := says_d cc 36; obtain ⟨b1, b2⟩ := two_of (ps := ["self", "other"]) F (fun _ _ _ _ _ _ us hl => match us, hl with | [_, _], _ => rfl) (fun _ _ _ _ _ _ p v e => by cases e); exact ⟨fd, F, b1, b2, kw2_of (ps := ["self", "other"]) F (fun _ _ _ _ _ _ a b u v e => by cases e; rfl)⟩
theorem t_M___eq__ (X : K.In h) (G : h.Ns mainGlobals mg) (cc : obsA fb fnL K = valA fnL) : Ms K "__eq__" "Kind.__eq__" s_Kind___eq (He.ma K (kc K) "__eq__") ["self", "other"] := by
  have c : fb K = true := says_b cc
  obtain ⟨fd, F⟩ := says_d cc 37; obtain ⟨b1, b2⟩ := two_of (ps := ["self", "other"]) F (fun _ _ _ _ _ _ us hl => match us, hl with | [_, _], _ => rfl) (fun _ _ _ _ _ _ p v e => by cases e); exact ⟨fd, F, b1, b2, kw2_of (ps := ["self", "other"]) F (fun _ _ _ _ _ _ a b u v e => by cases e; rfl)⟩
theorem t_M___init__ (X : K.In h) (G : h.Ns mainGlobals mg) (cc : obsA fb fnL K = valA fnL) : ∃ fd, Fun K "__init__" "Kind.__init__" s_Kind___init (He.ma K (kc K) "__init__") fd := by
  have c : fb K = true := says_b cc
  exact says_d cc 38
theorem t_kt (X : K.In h) (G : h.Ns mainGlobals mg) (cc : obsA fb fnL K = valA fnL) : ∀ n ∈ Ty7, PySem.W.kitOne K (.type n) (.ref (kc K)) = some false ∧ PySem.W.kitOne K (.ref (kc K)) (.type n) = some false ∧ PySem.W.notFirst K (kc K) (.type n) = true := by
  have c : fb K = true := says_b cc
  exact kt_ok (fb_at c 15)
theorem t_kk (X : K.In h) (G : h.Ns mainGlobals mg) (cc : obsA fb fnL K = valA fnL) : PySem.W.kitOne K (.ref (kc K)) (.ref (kc K)) = some true := by
  have c : fb K = true := says_b cc
  exact of_decide_eq_true (fb_at c 16)
theorem t_ca (X : K.In h) (G : h.Ns mainGlobals mg) (cc : obsA fb fnL K = valA fnL) : PySem.W.findIn K (.ref (kc K)) "__class__" = some (some (.builtin "object.__class__")) := by
  have c : fb K = true := says_b cc
  exact eqO_ok (fb_at c 17)
theorem t_cn (X : K.In h) (G : h.Ns mainGlobals mg) (cc : obsA fb fnL K = valA fnL) : PySem.W.specialIn K (.builtin "object.__class__") "__get__" = some (some (.builtin "getset_descriptor.__get__")) := by
  have c : fb K = true := says_b cc
  exact of_decide_eq_true (fb_at c 18)
theorem t_ct (X : K.In h) (G : h.Ns mainGlobals mg) (cc : obsA fb fnL K = valA fnL) : PySem.W.takesIn K (.builtin "object.__class__") = some true := by
  have c : fb K = true := says_b cc
  exact of_decide_eq_true (fb_at c 19)
theorem t_e_InvalidRenaming (X : K.In h) (G : h.Ns mainGlobals mg) (cc : obsA fb fnL K = valA fnL) : ∀ P w base, Exv.Ec P w K mg base "InvalidRenaming" (He.ga K "InvalidRenaming") "ValueError.__new__" [.type "ValueError", .type "Exception", .type "BaseException", .type "object"] ["self", "value"] 1 (Exv.mk1 "value") := by
  have c : fb K = true := says_b cc
  obtain ⟨fd, F⟩ := says_d cc 39
  exact fun P w base => ec_of (glo_ok X G (fa_at c 55)) (cl_ok X (fb_at c 8)) (fb_at c 9) F (Exv.init1 Exv.bsV F sci_InvalidRenaming rfl (by decide) (by decide) (cl_ok X (fb_at c 8)) (noat_ok (x := "InvalidRenaming") (f := "value") (fa_at c 65)) (fun _ => rfl)) (fun _ _ _ _ _ _ us hl => match us, hl with | [_, _], _ => rfl) (fun _ _ _ _ _ _ s0 ws hl ks e => by match ws, hl with | [_], _ => rw [List.append_cancel_right (bs := [("self" : Str)]) (as := ks) (cs := ["value"]) e]; rfl)
theorem t_g_InvalidRenaming (X : K.In h) (G : h.Ns mainGlobals mg) (cc : obsA fb fnL K = valA fnL) : mg "InvalidRenaming" = some (.ref (He.ga K "InvalidRenaming")) := by
  have c : fb K = true := says_b cc
  exact glo_ok X G (fa_at c 55)
theorem t_g_LineError (X : K.In h) (G : h.Ns mainGlobals mg) (cc : obsA fb fnL K = valA fnL) : mg "LineError" = some (.ref (He.ga K "LineError")) := by
  have c : fb K = true := says_b cc
  exact glo_ok X G (fa_at c 56)
theorem t_no_InvalidRenaming_value (X : K.In h) (G : h.Ns mainGlobals mg) (cc : obsA fb fnL K = valA fnL) : PySem.W.findIn K (.ref (He.ga K "InvalidRenaming")) "value" = some none := by
  have c : fb K = true := says_b cc
  exact noat_ok (x := "InvalidRenaming") (f := "value") (fa_at c 65)
theorem t_ki_InvalidRenaming (X : K.In h) (G : h.Ns mainGlobals mg) (cc : obsA fb fnL K = valA fnL) : PySem.W.kitOne K (.ref (He.ga K "InvalidRenaming")) (.ref (He.ga K "LineError")) = some true := by
  have c : fb K = true := says_b cc
  exact of_decide_eq_true (fb_at c 10)
theorem t_kv_InvalidRenaming (X : K.In h) (G : h.Ns mainGlobals mg) (cc : obsA fb fnL K = valA fnL) : PySem.W.kitOne K (.ref (He.ga K "InvalidRenaming")) (.type "ValueError") = some true := by
  have c : fb K = true := says_b cc
  exact of_decide_eq_true (fb_at c 11)
theorem t_x_rr (X : K.In h) (G : h.Ns mainGlobals mg) (cc : obsA fb fnL K = valA fnL) : PySem.W.exmOne K (.ref (He.ga K "InvalidRenaming")) (.ref (He.ga K "InvalidRenaming")) = some true := by
  have c : fb K = true := says_b cc
  exact of_decide_eq_true (fb_at c 12)
theorem txt (X : K.In h) (G : h.Ns mainGlobals mg) (cc : obsA fb fnL K = valA fnL) : Txt K mg := {
    n_len := t_n_len X G cc,
    n_int := t_n_int X G cc,
    n_abs := t_n_abs X G cc,
    n_max := t_n_max X G cc,
    n_min := t_n_min X G cc,
    n_divmod := t_n_divmod X G cc,
    n_isinstance := t_n_isinstance X G cc,
    n_bool := t_n_bool X G cc,
    n_str := t_n_str X G cc,
    n_repr := t_n_repr X G cc,
    n_range := t_n_range X G cc,
    n_all := t_n_all X G cc,
    n_any := t_n_any X G cc,
    n_tuple := t_n_tuple X G cc,
    n_list := t_n_list X G cc,
    n_sorted := t_n_sorted X G cc,
    n_set := t_n_set X G cc,
    n_enumerate := t_n_enumerate X G cc,
    n_dict := t_n_dict X G cc,
    n_ValueError := t_n_ValueError X G cc,
    c_MOST_LETTERS := t_c_MOST_LETTERS X G cc,
    c_FARTHEST := t_c_FARTHEST X G cc,
    c_FEWEST_ENTRIES := t_c_FEWEST_ENTRIES X G cc,
    S_is_integer := t_S_is_integer X G cc,
    S_is_name := t_S_is_name X G cc,
    S_is_list := t_S_is_list X G cc,
    S_in_order := t_S_in_order X G cc,
    S_merged := t_S_merged X G cc,
    S_is_distance := t_S_is_distance X G cc,
    S_is_entry := t_S_is_entry X G cc,
    S_is_renaming := t_S_is_renaming X G cc,
    S_check_entries := t_S_check_entries X G cc,
    S_normed := t_S_normed X G cc,
    S_reach_of := t_S_reach_of X G cc,
    S_check_reach := t_S_check_reach X G cc,
    S_shifted := t_S_shifted X G cc,
    S_lie_among := t_S_lie_among X G cc,
    S_shifts_among := t_S_shifts_among X G cc,
    S_l_pot := t_S_l_pot X G cc,
    S_l_draw := t_S_l_draw X G cc,
    S_l_among := t_S_l_among X G cc,
    S_l_names := t_S_l_names X G cc,
    S_l_normed := t_S_l_normed X G cc,
    S_l_entries := t_S_l_entries X G cc,
    S_l_part := t_S_l_part X G cc,
    S_l_more := t_S_l_more X G cc,
    S_l_shifts := t_S_l_shifts X G cc,
    S_l_pair_right := t_S_l_pair_right X G cc,
    S_l_heard := t_S_l_heard X G cc,
    S_l_bad := t_S_l_bad X G cc,
    S_l_renamed_right := t_S_l_renamed_right X G cc,
    S_l_right := t_S_l_right X G cc,
    S_law := t_S_law X G cc,
    g_Kind := t_g_Kind X G cc,
    cls := t_cls X G cc,
    maker := t_maker X G cc,
    cr := t_cr X G cc,
    m_entries := t_m_entries X G cc,
    m_names := t_m_names X G cc,
    m_shifts_in := t_m_shifts_in X G cc,
    m_renamed := t_m_renamed X G cc,
    f___le__ := t_f___le__ X G cc,
    i___le__ := t_i___le__ X G cc,
    f___ge__ := t_f___ge__ X G cc,
    i___ge__ := t_i___ge__ X G cc,
    f___eq__ := t_f___eq__ X G cc,
    i___eq__ := t_i___eq__ X G cc,
    ne := t_ne X G cc,
    mo := t_mo X G cc,
    no_entries := t_no_entries X G cc,
    no_reach := t_no_reach X G cc,
    M_of := t_M_of X G cc,
    M_entries := t_M_entries X G cc,
    M_names := t_M_names X G cc,
    M_shifts_in := t_M_shifts_in X G cc,
    M_renamed := t_M_renamed X G cc,
    M___le__ := t_M___le__ X G cc,
    M___ge__ := t_M___ge__ X G cc,
    M___eq__ := t_M___eq__ X G cc,
    M___init__ := t_M___init__ X G cc,
    kt := t_kt X G cc,
    kk := t_kk X G cc,
    ca := t_ca X G cc,
    cn := t_cn X G cc,
    ct := t_ct X G cc,
    e_InvalidRenaming := t_e_InvalidRenaming X G cc,
    g_InvalidRenaming := t_g_InvalidRenaming X G cc,
    g_LineError := t_g_LineError X G cc,
    no_InvalidRenaming_value := t_no_InvalidRenaming_value X G cc,
    ki_InvalidRenaming := t_ki_InvalidRenaming X G cc,
    kv_InvalidRenaming := t_kv_InvalidRenaming X G cc,
    x_rr := t_x_rr X G cc }
def tbs (K : PySem.W.Frag) : Tbs := ⟨(cT K ("_law_renamed_right", none)).1, (cT K ("_law_renamed_right", none)).2⟩
def cts (K : PySem.W.Frag) : List (Addr × Addr) := tfL.map (cT K)
theorem txT {base : Heap} (X : K.In h) (G : h.Ns mainGlobals mg) (cc : obsA fb fnL K = valA fnL) (TB : ∀ p ∈ cts K, TabB base mg p.1 p.2) : TxT K mg base (tbs K) := by
  have c : fb K = true := says_b cc
  have at_ : ∀ p ∈ tfL, TabB base mg (cT K p).1 (cT K p).2 := fun p hp => TB _ (List.mem_map.mpr ⟨p, hp, rfl⟩)
  refine ⟨txt X G cc, ?_⟩
  · obtain ⟨fd, F⟩ := says_d cc 27; obtain ⟨b1, b2⟩ := two_of (ps := ["_law_pot_here", "_law_some", "_law_tags"]) F (fun _ _ _ _ _ _ us hl => match us, hl with | [_, _, _], _ => rfl) (fun _ _ _ _ _ _ p v e => by cases e); exact ⟨_, fd, F, glo_ok X G (fa_at c 51), b1, b2, code_at (p := ("_law_renamed_right", none)) F, at_ _ (by decide)⟩
theorem tabs_void {H : Hp} (h : ∀ p ∈ tfL, H (cT K p).2 = some (.tbl #[])) : Tabs (tbs K).l H := by
  intro p hp
  simp only [Tbs.l, List.mem_cons, List.not_mem_nil, or_false] at hp
  subst hp
  exact ⟨#[], h ("_law_renamed_right", none) (by decide), trivial, fun pos cv z => by cases z⟩
end
end K12

set_option Elab.async false
set_option linter.all false
set_option maxRecDepth 100000
set_option maxHeartbeats 0
namespace K12
open PySem L2 Lay He Hd Ha Ht
theorem run (w : World) : HandSHeadRun.RunEq R (PySem.W.view R.prog [44]) hk ob 9600 looseL w := by
  intro os
  kernel_rfl
end K12

set_option Elab.async false
set_option linter.all false
set_option maxRecDepth 100000
set_option maxHeartbeats 4000000
namespace K12
open PySem L2 Lay Own SrtO LamX Od
/-! ### what is refused stays so -/
section
variable {K : PySem.W.Frag} {H H' : Hp} {x : V} {fs : List Ent}
theorem It.ext (h : It K H x) (s : ExtN H H') : It K H' x := by
  cases h with
  | int i => exact .int i
  | str z h => exact .str z h
  | non => exact .non
  | bl b => exact .bl b
  | lst h => exact .lst (s _ _ h fun ps z => by cases z)
  | tup h => exact .tup (s _ _ h fun ps z => by cases z)
  | dct h => exact .dct (s _ _ h fun ps z => by cases z)
  | own h => exact .own (s _ _ h fun ps z => by cases z)
theorem It.mut {D : Addr} {xs ys : List V} (hD : H D = some (.lst xs)) (h : It K H x) : It K (upd H D (.lst ys)) x := by
  have go : ∀ {a : Addr} {o : HO}, H a = some o → (∀ zs, o ≠ .lst zs) → upd H D (.lst ys) a = some o := fun e n => (upd_ne fun z => by rw [z, hD] at e; exact n _ (Option.some.inj e).symm).trans e
  cases h with
  | int i => exact .int i
  | str z h => exact .str z h
  | non => exact .non
  | bl b => exact .bl b
  | @lst a xs h =>
    by_cases e : a = D
    · subst e; exact .lst upd_same
    · exact .lst ((upd_ne e).trans h)
  | tup h => exact .tup (go h fun zs z => by cases z)
  | dct h => exact .dct (go h fun zs z => by cases z)
  | own h => exact .own (go h fun zs z => by cases z)
theorem _root_.Od.RD.ext {a : Addr} {kvs : List (V × V)} (h : RD H a kvs) (s : ExtN H H') : RD H' a kvs := by
  rcases h with h | ⟨ks, h, e⟩
  · exact .inl (s _ _ h fun ps z => by unfold OddO at z; cases z)
  · exact .inr ⟨ks, s _ _ h (fun ps z => (by cases z)), e⟩
theorem _root_.Od.RD.mut {a D : Addr} {xs ys : List V} {kvs : List (V × V)} (hD : H D = some (.lst xs)) (h : RD H a kvs) : RD (upd H D (.lst ys)) a kvs := by
  rcases h with h | ⟨ks, h, e⟩
  · exact .inl ((upd_ne fun z => by rw [z, hD] at h; unfold OddO at h; cases h).trans h)
  · exact .inr ⟨ks, (upd_ne fun z => by rw [z, hD] at h; cases h).trans h, e⟩
theorem NoD.ext (h : NoD H x) (s : ExtN H H') : NoD H' x := by
  cases h with
  | non => exact .non
  | int i => exact .int i
  | str z => exact .str z
  | lst h => exact .lst (s _ _ h fun ps z => by cases z)
  | tup h => exact .tup (s _ _ h fun ps z => by cases z)
theorem NoD.mut {D : Addr} {xs ys : List V} (hD : H D = some (.lst xs)) (h : NoD H x) : NoD (upd H D (.lst ys)) x := by
  cases h with
  | non => exact .non
  | int i => exact .int i
  | str z => exact .str z
  | @lst a xs h =>
    by_cases e : a = D
    · subst e; exact .lst upd_same
    · exact .lst ((upd_ne e).trans h)
  | tup h => exact .tup ((upd_ne fun z => by rw [z, hD] at h; cases h).trans h)
theorem Bad.ext (h : Bad K H fs x) (s : ExtN H H') : Bad K H' fs x := by
  rcases h with h | ⟨a, kvs, e, rd, l, it, r⟩ | ⟨a, ms, e, h, ok, m⟩
  · exact .inl (h.ext s)
  · exact .inr (.inl ⟨a, kvs, e, rd.ext s, l, fun p hp => ⟨(it p hp).1.ext s, (it p hp).2.ext s⟩, r⟩)
  · exact .inr (.inr ⟨a, ms, e, s _ _ h (fun ps z => (by cases z)), ok, m⟩)
theorem Bad.same (h : Bad K H fs x) (s : L2.Same H H') : Bad K H' fs x := h.ext (.of s)
theorem Bad.mut {D : Addr} {xs ys : List V} (hD : H D = some (.lst xs)) (h : Bad K H fs x) : Bad K (upd H D (.lst ys)) fs x := by
  rcases h with h | ⟨a, kvs, e, rd, l, it, r⟩ | ⟨a, ms, e, h, ok, m⟩
  · exact .inl (h.mut hD)
  · exact .inr (.inl ⟨a, kvs, e, rd.mut hD, l, fun p hp => ⟨(it p hp).1.mut hD, (it p hp).2.mut hD⟩, r⟩)
  · exact .inr (.inr ⟨a, ms, e, (upd_ne fun z => by rw [z, hD] at h; cases h).trans h, ok, m⟩)
end
/-! ### one more entry -/
section
variable {l : List (Key × V)} {k : Key} {v : V}
theorem put_in : (k, v) ∈ putK l k v := by
  unfold putK
  by_cases c : (l.any fun kv => decide (kv.1 = k)) = true
  · rw [if_pos c]
    obtain ⟨p, hp, e⟩ := List.any_eq_true.mp c
    have e := of_decide_eq_true e
    refine List.mem_map.mpr ⟨p, hp, ?_⟩
    rw [if_pos e, e]
  · rw [if_neg c]
    simp
theorem put_keep {p : Key × V} (h : p ∈ l) (n : p.1 ≠ k) : p ∈ putK l k v := by
  unfold putK
  by_cases c : (l.any fun kv => decide (kv.1 = k)) = true
  · rw [if_pos c]
    exact List.mem_map.mpr ⟨p, h, if_neg n⟩
  · rw [if_neg c]
    exact List.mem_append_left _ h
theorem put_of {p : Key × V} (h : p ∈ putK l k v) : p = (k, v) ∨ p ∈ l := by
  unfold putK at h
  by_cases c : (l.any fun kv => decide (kv.1 = k)) = true
  · rw [if_pos c] at h
    obtain ⟨q, hq, e⟩ := List.mem_map.mp h
    by_cases d : q.1 = k
    · rw [if_pos d, d] at e
      exact .inl e.symm
    · rw [if_neg d] at e
      rw [← e]
      exact .inr hq
  · rw [if_neg c] at h
    rcases List.mem_append.mp h with h | h
    · exact .inr h
    · exact .inl (List.mem_singleton.mp h)
theorem merge_snoc {acc : List (Key × V)} : mergeK acc (l ++ [(k, v)]) = putK (mergeK acc l) k v := by
  unfold mergeK
  rw [List.foldl_append]
  rfl
theorem merge_fresh : ∀ {l acc : List (Key × V)}, ((acc ++ l).map (·.1)).Nodup → mergeK acc l = acc ++ l
  | [], acc, _ => by rw [List.append_nil]; rfl
  | p :: l, acc, nd => by
    have np : valV acc p.1 = none := by
      unfold valV
      rw [Option.map_eq_none_iff, List.find?_eq_none]
      intro q hq e
      have e := of_decide_eq_true e
      rw [List.map_append, List.map_cons] at nd
      have z := (List.nodup_append.mp nd).2.2
      exact z q.1 (List.mem_map.mpr ⟨q, hq, rfl⟩) p.1 (List.mem_cons_self ..) e
    show mergeK (putK acc p.1 p.2) l = acc ++ p :: l
    rw [putK_new _ np, merge_fresh (l := l) (acc := acc ++ [(p.1, p.2)]) (by rw [List.append_assoc]; exact nd), List.append_assoc]
    rfl
theorem nodup_one {α β : Type} {f : α → β} : ∀ {l : List α}, (l.map f).Nodup → ∀ p ∈ l, ∀ q ∈ l, f p = f q → p = q
  | [], _, p, hp, _, _, _ => by cases hp
  | a :: l, nd, p, hp, q, hq, e => by
    rw [List.map_cons, List.nodup_cons] at nd
    rcases List.mem_cons.mp hp with ep | hp'
    · rcases List.mem_cons.mp hq with eq | hq'
      · rw [ep, eq]
      · exact absurd (List.mem_map.mpr ⟨q, hq', by rw [← e, ep]⟩) nd.1
    · rcases List.mem_cons.mp hq with eq | hq'
      · exact absurd (List.mem_map.mpr ⟨p, hp', by rw [e, eq]⟩) nd.1
      · exact nodup_one nd.2 p hp' q hq' e
end
theorem nm_nodup {ms : List (Str × Str)} (ok : MsOk ms) : ((nmK ms).map (·.1)).Nodup := by
  have e : (nmK ms).map (·.1) = (ms.map (·.1)).map Sum.inr := by
    unfold nmK
    rw [List.map_map, List.map_map]
    rfl
  rw [e, List.nodup_iff_pairwise_ne, List.pairwise_map]
  exact List.Pairwise.imp (fun a e => a (Sum.inr.inj e)) ok.nd
theorem merge_nm {ms : List (Str × Str)} {k : Key} {v : V} (ok : MsOk ms) : mergeK [] (nmK ms ++ [(k, v)]) = putK (nmK ms) k v := by
  rw [merge_snoc, merge_fresh (by rw [List.nil_append]; exact nm_nodup ok), List.nil_append]
theorem renB_no {kvs : List (V × V)} (h : (∃ p ∈ kvs, nB p.1 = false ∨ nB p.2 = false) ∨ ∃ p ∈ kvs, ∃ q ∈ kvs, p ≠ q ∧ p.2 = q.2) : renB kvs = false := by
  unfold renB
  rw [Bool.eq_false_iff]
  intro z
  rw [Bool.and_eq_true] at z
  obtain ⟨z1, z2⟩ := z
  rcases h with ⟨p, hp, h⟩ | ⟨p, hp, q, hq, n, e⟩
  · rcases h with h | h
    · have := List.all_eq_true.mp z1 _ (List.mem_map.mpr ⟨p.1, List.mem_append_left _ (List.mem_map.mpr ⟨p, hp, rfl⟩), rfl⟩)
      rw [h] at this
      cases this
    · have := List.all_eq_true.mp z1 _ (List.mem_map.mpr ⟨p.2, List.mem_append_right _ (List.mem_map.mpr ⟨p, hp, rfl⟩), rfl⟩)
      rw [h] at this
      cases this
  · exact n (nodup_one (of_decide_eq_true z2) p hp q hq e)
section
variable {K : PySem.W.Frag} {H : Hp} {fs : List Ent} {ms : List (Str × Str)} {a : Addr}
theorem kV_it {k : Key} (h : ∀ z, k = Sum.inr z → z.length ≤ 100000) : It K H (kV k) := by
  cases k with
  | inl i => exact .int i
  | inr z => exact .str z (h z rfl)
/-- one entry put into a dict of names, that is none or makes two alike -/
theorem bad_put {k : Key} {v : V} (ok : MsOk ms) (h : H a = some (.dK (putK (nmK ms) k v))) (ik : ∀ z, k = Sum.inr z → z.length ≤ 100000) (iv : It K H v)
    (b : nB (kV k) = false ∨ nB v = false ∨ ∃ q ∈ ms, (Sum.inr q.1 : Key) ≠ k ∧ V.str q.2 = v) : Bad K H fs (.ref a) := by
  refine .inr (.inl ⟨a, _, rfl, .inr ⟨_, h, rfl⟩, ?_, fun p hp => ?_, renB_no ?_⟩)
  · rw [List.length_map]
    have z := length_putK (nmK ms) k v
    have z2 := ok.l
    unfold nmK at z ⊢
    rw [List.length_map] at z
    omega
  · obtain ⟨q, hq, rfl⟩ := List.mem_map.mp hp
    rcases put_of hq with rfl | hq
    · exact ⟨kV_it ik, iv⟩
    · have m : (kV q.1, q.2) ∈ (nmK ms).map (fun p => (kV p.1, p.2)) := List.mem_map.mpr ⟨q, hq, rfl⟩
      exact nm_it ok _ m
  · rcases b with b | b | ⟨q, hq, n, e⟩
    · exact .inl ⟨_, List.mem_map.mpr ⟨_, put_in, rfl⟩, .inl b⟩
    · exact .inl ⟨_, List.mem_map.mpr ⟨_, put_in, rfl⟩, .inr b⟩
    · have m : ((Sum.inr q.1 : Key), V.str q.2) ∈ nmK ms := List.mem_map.mpr ⟨q, hq, rfl⟩
      refine .inr ⟨_, List.mem_map.mpr ⟨_, put_keep (v := v) m n, rfl⟩, _, List.mem_map.mpr ⟨_, put_in, rfl⟩, fun z => ?_, e⟩
      have z1 : kV (Sum.inr q.1) = kV k := congrArg Prod.fst z
      cases k with
      | inl i => cases z1
      | inr y => exact n (by rw [V.str.inj z1])
/-- an odd key at the end -/
theorem bad_odd {k0 v : V} (ok : MsOk ms) (h : H a = some (OddO a ((nmK ms).map (fun p => (kV p.1, p.2)) ++ [(k0, v)]))) (ik : It K H k0) (iv : It K H v) (b : nB k0 = false) : Bad K H fs (.ref a) := by
  refine .inr (.inl ⟨a, _, rfl, .inl h, ?_, fun p hp => ?_, renB_no (.inl ⟨_, List.mem_append_right _ (List.mem_singleton.mpr rfl), .inl b⟩)⟩)
  · rw [List.length_append, List.length_map]
    have z2 := ok.l
    unfold nmK
    rw [List.length_map]
    simp only [List.length_cons, List.length_nil]
    omega
  · rcases List.mem_append.mp hp with hp | hp
    · exact nm_it ok _ hp
    · rw [List.mem_singleton.mp hp]
      exact ⟨ik, iv⟩
end
/-- a thing that is locked while it is walked stands as before -/
theorem lock_same {H H' : Hp} {d : Addr} {u : HO} {od : Obj} (h : H d = some u) (s : L2.Same (upd H d (.frz od u)) H') : L2.Same H (upd H' d u) := fun b o e => by
  by_cases c : b = d
  · subst c
    rw [h] at e
    cases e
    exact upd_same
  · rw [upd_ne c]
    exact s _ _ ((upd_ne c).trans e)
end K12

set_option Elab.async false
set_option linter.all false
set_option maxRecDepth 100000
set_option maxHeartbeats 4000000
namespace K12
open PySem L2 Lay Own SrtO LamX Od
local macro_rules | `(tactic| walk_at "ne") => `(tactic| first | assumption | (apply Ne.symm; assumption) | exact ne_of_none (by walk_at "look") (by assumption) | exact (ne_of_none (by walk_at "look") (by assumption)).symm)
local macro_rules | `(tactic| walk_at "look") => `(tactic| first | assumption | exact upd_same | (refine Eq.trans (upd_ne ?_) ?_; walk_at "ne"; walk_at "look"))
local macro_rules | `(tactic| walk_at "rds") => `(tactic| first | rfl | assumption | walk_at "look" | exact SqL.of (by walk_at "look") | exact SqT.of (by walk_at "look") | exact Or.inl (SqL.of (by walk_at "look")) | exact Or.inl (by assumption) | decide | omega | exact Nat.le_of_ble_eq_true rfl | exact Or.inr ⟨by decide, by decide⟩ | exact Or.inl ⟨by omega, by omega⟩ | exact ⟨by decide, by decide⟩)
local macro_rules | `(tactic| walk_at "rd1") => `(tactic| first | (apply Exists.intro) | (refine And.intro ?_ ?_; walk_at "rds") | (refine Or.inl ?_; apply Exists.intro; refine And.intro ?_ ?_; rfl))
local macro_rules | `(tactic| walk_at "rd") => `(tactic| repeat walk_at "rd1")
section
variable {P : Program} {w : World} {K : PySem.W.Frag} {mg : Str → Option Value} {base : Heap}
theorem un8 {k : Nat} {B : Around} (hr : Room k B) : B.units + 8 < cLine := by
  have := hr.un
  omega
theorem pd_snoc {H H' : Hp} {ts : List Addr} {kvs : List (Key × V)} {u : Addr} {k : Key} {v : V} (h : Paired (fun (t : Addr) (q : Key × V) => H t = some (.tup [kV q.1, q.2])) ts kvs) (s : L2.Same H H') (hu : H' u = some (.tup [kV k, v])) :
    Paired (fun p kv => SqT K H' p [kV kv.1, kv.2]) (ts ++ [u]) (kvs ++ [(k, v)]) := pd_app (L2.Paired.mapP h fun a b z => SqT.of (s _ _ z)) (.cons (SqT.of hu) .nil)
def w9 : Str := Txt.join "" (List.replicate 9 ("a" : Str))
theorem w9_no : nB (.str w9) = false := by decide +kernel
theorem w9_len : w9.length ≤ 100000 := by decide +kernel
theorem look_mem : ∀ {ms : List (Str × Str)} {z v : Str}, (ms.map (·.1)).Nodup → (z, v) ∈ ms → look ms z = some v
  | [], _, _, _, h => by cases h
  | p :: ms, z, v, nd, h => by
    rw [List.map_cons, List.nodup_cons] at nd
    unfold look
    rw [List.find?_cons]
    by_cases c : p.1 = z
    · rw [decide_eq_true c]
      rcases List.mem_cons.mp h with e | h'
      · rw [← e]; rfl
      · exact absurd (List.mem_map.mpr ⟨_, h', c.symm⟩) nd.1
    · rw [decide_eq_false c]
      rcases List.mem_cons.mp h with e | h'
      · exact absurd (by rw [← e]) c
      · exact look_mem nd.2 h'
theorem look_none {ms : List (Str × Str)} {z : Str} (h : ∀ p ∈ ms, p.1 ≠ z) : look ms z = none := by
  unfold look
  rw [Option.map_eq_none_iff, List.find?_eq_none]
  intro p hp e
  exact h p hp (of_decide_eq_true e)
theorem refs_of {H : Hp} {zs : List V} {kvs : List (Key × V)} (h : Paired (fun (v : V) (q : Key × V) => ∃ t, v = .ref t ∧ H t = some (.tup [kV q.1, q.2])) zs kvs) : ∃ ps : List Addr, zs = ps.map V.ref ∧ Paired (fun (t : Addr) (q : Key × V) => H t = some (.tup [kV q.1, q.2])) ps kvs := by
  induction h with
  | nil => exact ⟨[], rfl, .nil⟩
  | cons a _ ih =>
    obtain ⟨t, rfl, ht⟩ := a
    obtain ⟨ps, rfl, h⟩ := ih
    exact ⟨t :: ps, rfl, .cons ht h⟩
theorem strs_pd {zs : List V} {ss : List Str} (h : Paired (fun (v : V) (z : Str) => v = .str z) zs ss) : zs = ss.map V.str := by
  induction h with
  | nil => rfl
  | cons a _ ih => rw [a, ih]; rfl
/-- a dict of names without one -/
def wo (ms : List (Str × Str)) (one : Str) : List (Str × Str) := ms.filter fun p => decide (p.1 ≠ one)
theorem wo_ok {ms : List (Str × Str)} {one : Str} (ok : MsOk ms) : MsOk (wo ms one) :=
  ⟨fun p hp => ok.k p (List.mem_filter.mp hp).1, (List.filter_sublist.map _).nodup ok.nd, (List.filter_sublist.map _).nodup ok.vd, Nat.le_trans (List.length_filter_le _ _) ok.l⟩
theorem fil_nm {ms : List (Str × Str)} {one : Str} : (nmK ms).filterMap (fun kv => if kv.1 = Sum.inr one then none else some kv) = nmK (wo ms one) := by
  unfold nmK wo
  induction ms with
  | nil => rfl
  | cons p ms ih =>
    rw [List.map_cons, List.filterMap_cons, List.filter_cons]
    by_cases c : p.1 = one
    · rw [if_pos (show (Sum.inr p.1 : Key) = Sum.inr one by rw [c]), if_neg (by simp [c])]
      exact ih
    · rw [if_neg (show ¬ (Sum.inr p.1 : Key) = Sum.inr one from fun z => c (Sum.inr.inj z)), if_pos (by simp [c]), List.map_cons, ih]
theorem nm_at {ms : List (Str × Str)} {i : Nat} {k : Key} {v : V} (h : (nmK ms)[i]? = some (k, v)) : ∃ q ∈ ms, k = Sum.inr q.1 ∧ v = .str q.2 := by
  unfold nmK at h
  rw [List.getElem?_map] at h
  obtain ⟨q, hq, e⟩ := Option.map_eq_some_iff.mp h
  cases e
  exact ⟨q, List.mem_of_getElem? hq, rfl, rfl⟩
/-- what is gathered so far -/
structure Got (K : PySem.W.Frag) (H H' : Hp) (fs : List Ent) (W : Addr) (ys : List V) : Prop where
  s : L2.Same H H'
  h : H' W = some (.lst ys)
  n : H W = none
  b : ∀ y ∈ ys, Bad K H' fs y
  l : ys.length ≤ 60
theorem Got.step {H H1 H2 : Hp} {fs : List Ent} {W : Addr} {ys : List V} {y : V} (g : Got K H H1 fs W ys) (s : L2.Same H1 H2) (b : Bad K H2 fs y) (l : ys.length < 60) : Got K H (upd H2 W (.lst (ys ++ [y]))) fs W (ys ++ [y]) := by
  have h2 := s _ _ g.h
  refine ⟨Same.mut (g.s.trans s) g.n, upd_same, g.n, fun z hz => ?_, by rw [List.length_append, List.length_cons, List.length_nil]; omega⟩
  rcases List.mem_append.mp hz with hz | hz
  · exact ((g.b z hz).same s).mut h2
  · rw [List.mem_singleton.mp hz]
    exact b.mut h2
theorem Got.same {H H1 H2 : Hp} {fs : List Ent} {W : Addr} {ys : List V} (g : Got K H H1 fs W ys) (s : L2.Same H1 H2) : Got K H H2 fs W ys := ⟨g.s.trans s, s _ _ g.h, g.n, fun y hy => (g.b y hy).same s, g.l⟩
theorem ss_lay : ∀ ss : List Str, (∀ z ∈ ss, Wd z) → PyData.canLayAll0 (ss.map PyData.str) = true
  | [], _ => by simp [PyData.canLayAll0]
  | z :: ss, h => by simp [PyData.canLayAll0, PyData.canLay0, (h z (List.mem_cons_self ..)).ok, ss_lay ss fun f hf => h f (List.mem_cons_of_mem _ hf)]
theorem ss_dep : ∀ ss : List Str, PyData.depthAll (ss.map PyData.str) ≤ 1
  | [] => by simp [PyData.depthAll]
  | z :: ss => by
    have h1 := ss_dep ss
    simp only [List.map_cons, PyData.depthAll, PyData.depth]
    omega
theorem ss_sh {ss : List Str} (n : ∀ z ∈ ss, Wd z) : SeqAt.shaped (.list (ss.map PyData.str)) = true := by
  have h := ss_dep ss
  show (PyData.canLay0 (.list (ss.map PyData.str)) && decide (PyData.depth (.list (ss.map PyData.str)) ≤ 64)) = true
  rw [Bool.and_eq_true]
  exact ⟨by simp only [PyData.canLay0]; exact ss_lay ss n, decide_eq_true (by simp only [PyData.depth]; omega)⟩
theorem ss_dp {H : Hp} : ∀ ss : List Str, DpAll K H (ss.map V.str) (ss.map PyData.str)
  | [] => .nil
  | z :: ss => .cons (.str z) (ss_dp ss)
theorem ss_ne {H : Hp} {a b : Addr} {ss : List Str} {Q : VK} (h : SqL K H a (ss.map V.str)) (e : SqL K H b []) (n : ∀ z ∈ ss, Wd z) (k : Q (.bl (decide (ss ≠ []))) H) : rNeD K (.ref a) (.ref b) H Q := by
  refine ⟨_, _, .lst h (ss_dp ss), .lst e .nil, ss_sh n, by decide +kernel, ?_⟩
  have z : (!PyData.eqv (.list (ss.map PyData.str)) (.list [])) = decide (ss ≠ []) := by
    cases ss with
    | nil => decide +kernel
    | cons p ps =>
      rw [decide_eq_true (by simp)]
      simp [PyData.eqv, PyData.eqvAll]
  rw [z]
  exact k
/-- the names of a dict but one -/
def others (ms : List (Str × Str)) (one : Str) : List Str := (nmK ms).filterMap fun kv => if kv.1 = Sum.inr one then none else (match kv.1 with | .inr z => some z | _ => none)
theorem others_of {ms : List (Str × Str)} {one z : Str} (h : z ∈ others ms one) : z ≠ one ∧ ∃ q ∈ ms, q.1 = z := by
  obtain ⟨kv, h1, h2⟩ := List.mem_filterMap.mp h
  obtain ⟨q, hq, rfl⟩ := List.mem_map.mp h1
  by_cases c : (Sum.inr q.1 : Key) = Sum.inr one
  · rw [if_pos c] at h2; cases h2
  · rw [if_neg c] at h2
    cases h2
    exact ⟨fun e => c (by rw [e]), q, hq, rfl⟩
theorem at0 {α : Type} {a : α} {l : List α} : atI (a :: l) 0 = some a := by
  unfold atI ixN
  simp
theorem fil_head {α β : Type} [DecidableEq β] {l : List α} {m : List β} {k : α → β} (nd : (l.map k).Nodup) (lt : m.length < l.length) : ∃ a r, l.filterMap (fun z => if k z ∈ m then none else some z) = a :: r ∧ a ∈ l ∧ k a ∉ m := by
  cases h : l.filterMap (fun z => if k z ∈ m then none else some z) with
  | nil =>
    refine absurd (len_sub (m := m) nd fun x hx => ?_) (Nat.not_le.mpr (by rw [List.length_map]; exact lt))
    obtain ⟨z, hz, rfl⟩ := List.mem_map.mp hx
    by_cases c : k z ∈ m
    · exact c
    · have : z ∈ l.filterMap (fun z => if k z ∈ m then none else some z) := List.mem_filterMap.mpr ⟨z, hz, by rw [if_neg c]⟩
      rw [h] at this
      cases this
  | cons a r =>
    have : a ∈ l.filterMap (fun z => if k z ∈ m then none else some z) := by rw [h]; exact List.mem_cons_self ..
    obtain ⟨z, hz, e⟩ := List.mem_filterMap.mp this
    by_cases c : k z ∈ m
    · rw [if_pos c] at e; cases e
    · rw [if_neg c] at e
      cases e
      exact ⟨_, r, rfl, hz, c⟩
theorem look_iff {ms : List (Str × Str)} {z : Str} : (look ms z).isSome = decide (z ∈ ms.map (·.1)) := by
  rw [Bool.eq_iff_iff, decide_eq_true_iff]
  simp [look, List.find?_isSome, List.mem_map]
/-- a dict of the entries and one more: dict(list(d.items()) + [(k, v)]) -/
theorem put_read {r : List V → Hp → VK → Prop} {td tk tv : TE} {σ : L2.St} {H : Hp} {Q : VK} {d : Addr} {ms : List (Str × Str)} {x y : V} (ok : MsOk ms) (hd : H d = some (.dK (nmK ms))) (h1 : ∀ R : VK, R (.ref d) H → td σ H R)
    (hk : ∀ (H2 : Hp) (R : VK), L2.Same H H2 → R x H2 → tk σ H2 R) (hv : ∀ (H2 : Hp) (R : VK), L2.Same H H2 → (∀ H3, L2.Same H2 H3 → R y H3) → tv σ H2 R)
    (hr : ∀ (l t : Addr) (ts : List Addr) (H' : Hp), L2.Same H H' → H' l = some (.lst ((ts ++ [t]).map V.ref)) → Paired (fun (t : Addr) (q : Key × V) => H' t = some (.tup [kV q.1, q.2])) ts (nmK ms) → H' t = some (.tup [x, y]) → r [.ref l] H' Q) :
    tCB r (tCons (tOp rCat (LiI.tListItems td) (tLst (tCons (tTup (tCons tk (tCons tv tNil))) tNil))) tNil) σ H Q := by
  refine h1 _ ⟨d, nmK ms, rfl, hd, fun H2 q ts s2 nq nts nqt hq hts => ?_⟩
  refine hk _ _ s2 (hv _ _ s2 fun H3 s3 => ?_)
  refine ⟨by show (2 : Nat) ≤ sizeLine; decide +kernel, fun t nt => ?_⟩
  refine ⟨by show (1 : Nat) ≤ sizeLine; decide +kernel, fun b nb => ?_⟩
  have s4 := s3.trans (Same.new (o := .tup [x, y]) nt)
  have s5 := s4.trans (Same.new (o := .lst [.ref t]) nb)
  have lt : ts.length = ms.length := by
    rw [PySem.Paired.length hts]
    unfold nmK
    rw [List.length_map]
  have lm := ok.l
  refine ⟨q, b, ts.map V.ref, [.ref t], rfl, rfl, s5 _ _ hq, upd_same, by
    rw [List.length_map, lt]
    show ms.length + 1 ≤ sizeLine
    exact Nat.le_trans (Nat.succ_le_succ lm) (by decide +kernel), fun c nc => ?_⟩
  have s6 := s5.trans (Same.new (o := .lst (ts.map V.ref ++ [.ref t])) nc)
  refine hr c t ts _ (L2.Same.trans s2 s6) (by rw [List.map_append]; exact upd_same) (L2.Paired.mapP hts fun a b z => s6 _ _ z) ?_
  exact Same.new nc _ _ (Same.new nb _ _ upd_same)
theorem put_P {td tk tv : TE} {σ : L2.St} {H : Hp} {Q : VK} {d : Addr} {ms : List (Str × Str)} {k : Key} {y : V} (ok : MsOk ms) (hd : H d = some (.dK (nmK ms))) (h1 : ∀ R : VK, R (.ref d) H → td σ H R)
    (hk : ∀ (H2 : Hp) (R : VK), L2.Same H H2 → R (kV k) H2 → tk σ H2 R) (hv : ∀ (H2 : Hp) (R : VK), L2.Same H H2 → (∀ H3, L2.Same H2 H3 → R y H3) → tv σ H2 R)
    (hQ : ∀ (p : Addr) (H' : Hp), L2.Same H H' → H' p = some (.dK (putK (nmK ms) k y)) → Q (.ref p) H') :
    tCB (rDP K) (tCons (tOp rCat (LiI.tListItems td) (tLst (tCons (tTup (tCons tk (tCons tv tNil))) tNil))) tNil) σ H Q := by
  refine put_read ok hd h1 hk hv fun l t ts H' s hl hts ht => ?_
  refine ⟨l, ts ++ [t], nmK ms ++ [(k, y)], rfl, SqL.of hl, pd_snoc hts (Same.refl _) ht, fun p np => ?_⟩
  rw [merge_nm ok]
  exact hQ p _ (s.trans (Same.new np)) upd_same
theorem odd_read {Q : VK} {H : Hp} {l t : Addr} {us : List Addr} {ms : List (Str × Str)} {fs : List Ent} {x : V} {v : Str} (ok : MsOk ms) (hl : H l = some (.lst ((us ++ [t]).map V.ref))) (hts : Paired (fun (t : Addr) (q : Key × V) => H t = some (.tup [kV q.1, q.2])) us (nmK ms))
    (ht : H t = some (.tup [x, .str v])) (vl : v.length ≤ 100000) (hx : (∃ i, x = .int i) ∨ (∃ z, x = .str z ∧ z.length ≤ 100000 ∧ nB (.str z) = false) ∨ x = .non ∨ (∃ (b : Addr) (z : Str), x = .ref b ∧ H b = some (.tup [.str z]) ∧ PyData.strOk z = true ∧ z.length ≤ 100000))
    (k : ∀ (p : Addr) (J : Hp), L2.Same H J → Bad K J fs (.ref p) → Q (.ref p) J) : rDP K [.ref l] H Q ∨ rDO K [.ref l] H Q ∨ rDN K [.ref l] H Q := by
  have lm : (nmK ms).length + 1 ≤ sizeLine := by
    have := ok.l
    unfold nmK
    rw [List.length_map]
    exact Nat.le_trans (Nat.succ_le_succ this) (by decide +kernel)
  have hk : ∀ kv ∈ nmK ms, ∃ z, kv.1 = Sum.inr z ∧ PyData.strOk z = true := fun kv h => by
    obtain ⟨q, hq, rfl⟩ := List.mem_map.mp h
    exact ⟨q.1, rfl, (ok.k q hq).1.ok⟩
  have hts2 : Paired (fun p kv => SqT K H p [kV kv.1, kv.2]) us (nmK ms) := L2.Paired.mapP hts fun a b z => SqT.of z
  rcases hx with ⟨i, rfl⟩ | ⟨z, rfl, lz, nz⟩ | rfl | ⟨b, z, rfl, hb, oz, lz⟩
  · refine .inl ⟨l, us ++ [t], nmK ms ++ [(.inl i, .str v)], rfl, SqL.of hl, pd_snoc (k := .inl i) hts (Same.refl _) ht, fun p np => ?_⟩
    rw [merge_nm ok]
    exact k p _ (Same.new np) (bad_put ok upd_same (fun z e => by cases e) (.str _ vl) (.inl rfl))
  · refine .inl ⟨l, us ++ [t], nmK ms ++ [(.inr z, .str v)], rfl, SqL.of hl, pd_snoc (k := .inr z) hts (Same.refl _) ht, fun p np => ?_⟩
    rw [merge_nm ok]
    exact k p _ (Same.new np) (bad_put ok upd_same (fun y e => by cases e; exact lz) (.str _ vl) (.inl nz))
  · refine .inr (.inr ⟨l, t, us, nmK ms, .str v, rfl, SqL.of hl, hts2, SqT.of ht, fun kv h => ?_, nm_nodup ok, lm, fun p np => ?_⟩)
    · obtain ⟨z, e, _⟩ := hk kv h
      exact ⟨z, e⟩
    · exact k p _ (Same.new np) (bad_odd ok upd_same .non (.str _ vl) rfl)
  · refine .inr (.inl ⟨l, t, b, us, nmK ms, z, .str v, rfl, SqL.of hl, hts2, SqT.of ht, SqT.of hb, oz, hk, nm_nodup ok, lm, fun p np => ?_⟩)
    exact k p _ (Same.new np) (bad_odd ok upd_same (.tup (Same.new np _ _ hb)) (.str _ vl) rfl)
/-! bad -/
def spBad (K : PySem.W.Frag) : Sp := fun vs H Q _ => ∃ p d g ms ts fs, vs = [.ref p, .ref d, .ref g] ∧ H p = some (PotO p) ∧ H d = some (.dK (nmK ms)) ∧ MsOk ms ∧ ms ≠ [] ∧ (∀ q ∈ ms, ∃ e ∈ (fs : List Ent), e.2.2 = q.1) ∧ H g = some (.lst (ts.map V.str)) ∧ NsOk ts ∧ ms.length < ts.length ∧ ts.length ≤ 16 ∧
  ∀ y H', L2.Same H H' → Bad K H' fs y → Q y H'
theorem d_bad (T : Txt K mg) : Df P w K mg base 3 "_law_bad" ["_law_pot_here", "_law_known", "_law_tags"] (spBad K) := by
  have D_l_among := d_among (P := P) (w := w) (base := base) T
  refine T.S_l_bad.by sc_l_bad (fun vs H Q E h => ?_) (fun f cdv A outer s H vs Q E hr hgd h => ?_)
  · obtain ⟨p, d, g, ms, ts, fs, rfl, _⟩ := h; rfl
  · obtain ⟨p, d, g, ms, ts, fs, rfl, hp, hd, mok, mne, own, hg, tok, lt, l16, k⟩ := h
    refine ⟨_, (pss_cons (ps_asg (pe_tup (pa_cons (pe_own D_l_among (hr.mono (by first | decide | omega)) hgd (pa_cons (pv 0) (pa_cons (pe_callB  (call_sortedD rfl) (by rfl) T.n_sorted (by decide +kernel) (pa_cons (pv 1) pa_nil)) pa_nil))) (pa_cons (pe_join pe_str (pe_lc (own := [("_law_turn", 10)]) rfl sc_l_bad.nd (pi_range1 (by rfl) T.n_range (pa_cons pe_int pa_nil)) (blkOk_by (own := [("_law_turn", 10)]) (N := ["_law_pot_here", "_law_known", "_law_tags", "_law_one", "_law_word", "_law_wrong", "_law_bad_here", "_law_rest", "_law_spare", "_law_odd", "_law_turn", "_law_tag"]) (sc := defScope s_l_bad) (by decide +kernel)) (fun _ _ _ _ _ => (pg_name (i := 10) sc_l_bad.nd rfl (by first | exact Or.inl rfl | exact Or.inr rfl))) (fun _ _ _ _ _ => pts_nil) (fun _ _ _ _ _ => pe_str))) pa_nil))) (pg_tup rfl (pgs_cons (pg_name (i := 3) sc_l_bad.nd rfl (by first | exact Or.inl rfl | exact Or.inr rfl)) (pgs_cons (pg_name (i := 4) sc_l_bad.nd rfl (by first | exact Or.inl rfl | exact Or.inr rfl)) pgs_nil))))
      (pss_cons (ps_set (i := 5) sc_l_bad.nd rfl (by first | exact Or.inl rfl | exact Or.inr rfl) (pe_lst (pa_cons pe_non (pa_cons pe_int (pa_cons (pe_lst pa_nil) (pa_cons (pe_callB  (call_sortedD rfl) (by rfl) T.n_sorted (by decide +kernel) (pa_cons (pv 1) pa_nil)) (pa_cons pe_str (pa_cons (pe_tup pa_nil) (pa_cons (pe_callTy (call_dictP rfl) (by rfl) T.n_dict (by decide +kernel) (pa_cons (pe_lock (pe_lc (own := [("_law_tag", 11)]) rfl sc_l_bad.nd (pi_keys (pv 1)) (blkOk_by (own := [("_law_tag", 11)]) (N := ["_law_pot_here", "_law_known", "_law_tags", "_law_one", "_law_word", "_law_wrong", "_law_bad_here", "_law_rest", "_law_spare", "_law_odd", "_law_turn", "_law_tag"]) (sc := defScope s_l_bad) (by decide +kernel)) (fun _ _ _ _ _ => (pg_name (i := 11) sc_l_bad.nd rfl (by first | exact Or.inl rfl | exact Or.inr rfl))) (fun _ _ _ _ _ => pts_one (pt_cmpR op_ne (pv 11) (pv 3) (nomark _))) (fun _ _ _ _ _ => (pe_tup (pa_cons (pv 11) (pa_cons (pe_dget (hu_of hr) (pv 1) (pv 11) (fun _ _ => rfl)) pa_nil)))))) pa_nil)) pa_nil)))))))))
      (pss_cons (ps_for PassesOwn.never rfl (pi_list (pe_lst (pa_cons (pv 4) (pa_cons pe_str (pa_cons pe_non (pa_cons pe_int (pa_cons pe_bl (pa_cons pe_str (pa_cons pe_str (pa_cons (pe_tup (pa_cons pe_str pa_nil)) pa_nil)))))))))) (pg_name (i := 6) sc_l_bad.nd rfl (by first | exact Or.inl rfl | exact Or.inr rfl)) (pss_one (ps_expr (pe_bm PySem.F.plainAttrs_list PySem.F.slot_list_append PySem.F.type_list_append mt_append (pv 5) (pa_cons (pe_callTy (call_dictP rfl) (by rfl) T.n_dict (by decide +kernel) (pa_cons (pe_op op_cat (LiI.pe_listItems rfl (pv 1) (by rfl) T.n_list (by decide +kernel)) (pe_lst (pa_cons (pe_tup (pa_cons (pv 3) (pa_cons (pv 6) pa_nil))) pa_nil))) pa_nil)) pa_nil)))))
      (pss_cons (ps_lock (ps_setLc (i := 7) (own := [("_law_tag", 11)]) rfl sc_l_bad.nd rfl rfl (sw_true rfl rfl rfl (by decide +kernel)) (pi_keys (pv 1)) (blkOk_by (own := [("_law_tag", 11)]) (N := ["_law_pot_here", "_law_known", "_law_tags", "_law_one", "_law_word", "_law_wrong", "_law_bad_here", "_law_rest", "_law_spare", "_law_odd", "_law_turn", "_law_tag"]) (sc := defScope s_l_bad) (by decide +kernel)) (fun _ _ _ _ _ => (pg_name (i := 11) sc_l_bad.nd rfl (by first | exact Or.inl rfl | exact Or.inr rfl))) (fun _ _ _ _ _ => pts_one (pt_cmpR op_ne (pv 11) (pv 3) (nomark _))) (fun _ _ _ _ _ => (pv 11))))
      (pss_cons (ps_if (pt_cmpR (op_neD (un64 hr)) (pv 7) (pe_lst pa_nil) (nomark _)) (pss_one (ps_expr (pe_bm PySem.F.plainAttrs_list PySem.F.slot_list_append PySem.F.type_list_append mt_append (pv 5) (pa_cons (pe_callTy (call_dictP rfl) (by rfl) T.n_dict (by decide +kernel) (pa_cons (pe_op op_cat (LiI.pe_listItems rfl (pv 1) (by rfl) T.n_list (by decide +kernel)) (pe_lst (pa_cons (pe_tup (pa_cons (pv 3) (pa_cons (pe_dget (hu_of hr) (pv 1) (pe_ix ix_list (pv 7) pe_int (fun _ _ => rfl)) (fun _ _ => rfl)) pa_nil))) pa_nil))) pa_nil)) pa_nil)))) pss_nil)
      (pss_cons (ps_set (i := 8) sc_l_bad.nd rfl (by first | exact Or.inl rfl | exact Or.inr rfl) (pe_ix ix_list (pe_lc (own := [("_law_tag", 11)]) rfl sc_l_bad.nd (pi_list (pv 2)) (blkOk_by (own := [("_law_tag", 11)]) (N := ["_law_pot_here", "_law_known", "_law_tags", "_law_one", "_law_word", "_law_wrong", "_law_bad_here", "_law_rest", "_law_spare", "_law_odd", "_law_turn", "_law_tag"]) (sc := defScope s_l_bad) (by decide +kernel)) (fun _ _ _ _ _ => (pg_name (i := 11) sc_l_bad.nd rfl (by first | exact Or.inl rfl | exact Or.inr rfl))) (fun _ _ _ _ _ => pts_one (pt_cmp (pc_dnotin (hu_of hr) (pv 11) (pv 1)))) (fun _ _ _ _ _ => (pv 11))) pe_int (fun _ _ => rfl)))
      (pss_cons (ps_for PassesOwn.never rfl (pi_list (pe_lst (pa_cons (pe_dget (hu_of hr) (pv 1) (pv 3) (fun _ _ => rfl)) (pa_cons (pv 4) (pa_cons pe_str (pa_cons pe_non (pa_cons pe_int (pa_cons pe_bl (pa_cons pe_str (pa_cons (pe_tup (pa_cons pe_str pa_nil)) pa_nil)))))))))) (pg_name (i := 6) sc_l_bad.nd rfl (by first | exact Or.inl rfl | exact Or.inr rfl)) (pss_one (ps_expr (pe_bm PySem.F.plainAttrs_list PySem.F.slot_list_append PySem.F.type_list_append mt_append (pv 5) (pa_cons (pe_callTy (call_dictP rfl) (by rfl) T.n_dict (by decide +kernel) (pa_cons (pe_op op_cat (LiI.pe_listItems rfl (pv 1) (by rfl) T.n_list (by decide +kernel)) (pe_lst (pa_cons (pe_tup (pa_cons (pv 8) (pa_cons (pv 6) pa_nil))) pa_nil))) pa_nil)) pa_nil)))))
      (pss_cons (ps_for PassesOwn.never rfl (pi_list (pe_lst (pa_cons pe_int (pa_cons pe_non (pa_cons pe_str (pa_cons pe_str (pa_cons (pv 4) (pa_cons (pe_tup (pa_cons pe_str pa_nil)) pa_nil)))))))) (pg_name (i := 9) sc_l_bad.nd rfl (by first | exact Or.inl rfl | exact Or.inr rfl)) (pss_one (ps_expr (pe_bm PySem.F.plainAttrs_list PySem.F.slot_list_append PySem.F.type_list_append mt_append (pv 5) (pa_cons (pe_callTy  (call_dictA rfl (un8 hr)) (by rfl) T.n_dict (by decide +kernel) (pa_cons (pe_op op_cat (LiI.pe_listItems rfl (pv 1) (by rfl) T.n_list (by decide +kernel)) (pe_lst (pa_cons (pe_tup (pa_cons (pv 9) (pa_cons (pe_ix ix_list (pe_lc (own := [("_law_tag", 11)]) rfl sc_l_bad.nd (pi_list (pv 2)) (blkOk_by (own := [("_law_tag", 11)]) (N := ["_law_pot_here", "_law_known", "_law_tags", "_law_one", "_law_word", "_law_wrong", "_law_bad_here", "_law_rest", "_law_spare", "_law_odd", "_law_turn", "_law_tag"]) (sc := defScope s_l_bad) (by decide +kernel)) (fun _ _ _ _ _ => (pg_name (i := 11) sc_l_bad.nd rfl (by first | exact Or.inl rfl | exact Or.inr rfl))) (fun _ _ _ _ _ => pts_one (pt_cmpR (op_notV rfl (un8 hr)) (pv 11) (pe_valO (pv 1)) (by rfl))) (fun _ _ _ _ _ => (pv 11))) pe_int (fun _ _ => rfl)) pa_nil))) pa_nil))) pa_nil)) pa_nil)))))
      (pss_one (ps_ret (pe_own D_l_among (hr.mono (by first | decide | omega)) hgd (pa_cons (pv 0) (pa_cons (pv 5) pa_nil))))))))))))), ?_⟩
    have lm := mok.l
    have lk : (nmK ms).length = ms.length := by unfold nmK; rw [List.length_map]
    have ks : (nmK ms).map (·.1) = (ms.map (·.1)).map Sum.inr := by
      unfold nmK
      rw [List.map_map, List.map_map]
      rfl
    have m0 : 0 < ms.length := List.length_pos_iff.mpr mne
    refine ⟨_, rfl, _, rfl, d, nmK ms, ms.map (·.1), rfl, .inl hd, ks, by rw [List.length_map]; omega, fun zs q pm srt nq => ?_⟩
    have s1 := Same.new (o := .lst (zs.map V.str)) nq
    have lz := pm.length_eq
    rw [List.length_map] at lz
    refine ⟨p, q, _, rfl, s1 _ _ hp, SqL.of upd_same, by rw [List.length_map]; omega, by rw [List.length_map]; omega, fun y H1 hy s2 => ?_⟩
    obtain ⟨one, hone, rfl⟩ := List.mem_map.mp hy
    have hone := pm.mem_iff.mp hone
    have t1 := s1.trans s2
    refine ⟨⟨_, rfl⟩, _, rfl, by decide, by decide, fun D nD => ?_⟩
    refine lc_pure walk_range nD (by decide) (fun _ _ => trivial) (fun i y => y = V.str "a") (fun i x H4 H5 Kn Z hi sm y q => ?_) (fun H2 us sm hD hl hr' => ?_)
    · obtain ⟨rfl, rfl⟩ := y
      exact ⟨rfl, q _ _ (Same.refl _) rfl⟩
    obtain rfl : us = (List.replicate 9 ("a" : Str)).map V.str := by
      rw [List.map_replicate]
      exact List.eq_replicate_iff.mpr ⟨hl, fun b hb => by
        obtain ⟨i, hi⟩ := List.mem_iff_getElem?.mp hb
        exact hr' i b hi⟩
    refine ⟨"", D, List.replicate 9 "a", rfl, rfl, .inl (SqL.of hD), by decide, ?_⟩
    have t2 := t1.trans sm
    refine ⟨by show (2 : Nat) ≤ sizeLine; decide +kernel, fun tp ntp => ?_⟩
    refine ⟨tp, _, rfl, SqT.of upd_same, rfl, _, _, rfl, _, _, rfl, rfl, ?_⟩
    have t3 := t2.trans (Same.new (o := .tup [V.str one, V.str (Txt.join "" (List.replicate 9 "a"))]) ntp)
    generalize upd H2 tp (HO.tup [V.str one, V.str (Txt.join "" (List.replicate 9 "a"))]) = G3 at t3
    rw [show Txt.join "" (List.replicate 9 ("a" : Str)) = w9 from rfl]
    -- the list of what is wrong
    refine ⟨by show (0 : Nat) ≤ sizeLine; decide +kernel, fun a1 na1 => ?_⟩
    have u1 := t3.trans (Same.new (o := .lst []) na1)
    have h1 : (upd G3 a1 (.lst [])) a1 = some (.lst []) := upd_same
    generalize upd G3 a1 (.lst []) = G4 at u1 h1
    refine ⟨_, rfl, d, nmK ms, ms.map (·.1), rfl, .inl (u1 _ _ hd), ks, by rw [List.length_map]; omega, fun zs2 a2 pm2 srt2 na2 => ?_⟩
    have u2 := u1.trans (Same.new (o := .lst (zs2.map V.str)) na2)
    have h12 := Same.new (o := .lst (zs2.map V.str)) na2 _ _ h1
    have h2 : (upd G4 a2 (.lst (zs2.map V.str))) a2 = some (.lst (zs2.map V.str)) := upd_same
    generalize upd G4 a2 (.lst (zs2.map V.str)) = G5 at u2 h2 h12
    refine ⟨by show (0 : Nat) ≤ sizeLine; decide +kernel, fun a3 na3 => ?_⟩
    have u3 := u2.trans (Same.new (o := .tup []) na3)
    have w3 : L2.Same G5 (upd G5 a3 (.tup [])) := Same.new na3
    have h3 : (upd G5 a3 (.tup [])) a3 = some (.tup []) := upd_same
    generalize upd G5 a3 (.tup []) = G6 at u3 h3 w3
    have hd6 := u3 _ _ hd
    refine ⟨d, .dK (nmK ms), hd6, trivial, fun od => ?_⟩
    refine ⟨_, rfl, d, od, rfl, .inl ⟨nmK ms, upd_same, fun D2 nD2 => ?_⟩⟩
    refine lc_fil walk_keys nD2 (by rw [lk]; omega) (fun _ sm => sm _ _ upd_same) (fun i => (nmK ms)[i]?.bind fun kv => if kv.1 = Sum.inr one then none else some kv) (fun H v (kv : Key × V) => ∃ t, v = .ref t ∧ H t = some (.tup [kV kv.1, kv.2]))
      (fun H H' v c s ⟨t, e, h⟩ => ⟨t, e, s _ _ h⟩) (fun H xs ys v c hD ⟨t, e, h⟩ => ⟨t, e, (upd_ne fun z => by rw [z, hD] at h; cases h).trans h⟩) (fun i x H4 H5 Kn Z hi sm _ y q n => ?_) (fun H4 zs3 sm3 hD2 hp3 => ?_)
    · obtain ⟨rfl, kk, vv, hkv, rfl⟩ := y
      rw [hkv, Option.bind_some] at q n
      obtain ⟨m, hm, rfl, rfl⟩ := nm_at hkv
      refine ⟨rfl, _, rfl, _, rfl, rfl, _, rfl, ?_⟩
      by_cases c : m.1 = one
      · rw [show (!decide (kV (Sum.inr m.1) = V.str one)) = false by simp [kV, c]]
        exact iteF (n (by rw [if_pos (by rw [c])]) _ (Same.refl _))
      · rw [show (!decide (kV (Sum.inr m.1) = V.str one)) = true by simp [kV, c]]
        refine iteT ?_
        have hfz := sm _ _ upd_same
        have g1 : DGet H5 d (V.str m.1) (some (.str m.2)) := .inl ⟨nmK ms, Sum.inr m.1, .inr ⟨od, hfz⟩, rfl, by rw [valV_nm, look_mem mok.nd hm]; rfl⟩
        refine ⟨_, rfl, _, rfl, _, rfl, d, _, rfl, g1, by show (2 : Nat) ≤ sizeLine; decide +kernel, fun t nt => ?_⟩
        exact q _ _ _ (by rw [if_neg fun z => c (Sum.inr.inj z)]) (Same.new nt) ⟨t, rfl, upd_same⟩
    · rw [range_fil, fil_nm] at hp3
      obtain ⟨ps3, rfl, hq3⟩ := refs_of hp3
      have fz := sm3 _ _ upd_same
      refine ⟨fz, ?_⟩
      have u4 := u3.trans (lock_same hd6 sm3)
      have w4 := w3.trans (lock_same hd6 sm3)
      have x4 := lock_same hd6 sm3
      have nD2d : D2 ≠ d := fun z => by rw [z, fz] at hD2; cases hD2
      have hD3 : (upd H4 d (.dK (nmK ms))) D2 = some (.lst (ps3.map V.ref)) := (upd_ne nD2d).trans hD2
      have hp4 : Paired (fun p kv => SqT K (upd H4 d (.dK (nmK ms))) p [kV kv.1, kv.2]) ps3 (nmK (wo ms one)) := L2.Paired.mapP hq3 fun a b z => SqT.of ((upd_ne fun e => by rw [e, fz] at z; cases z).trans z)
      generalize upd H4 d (.dK (nmK ms)) = G7 at u4 w4 x4 hD3 hp4
      refine ⟨D2, ps3, nmK (wo ms one), rfl, SqL.of hD3, hp4, fun a4 na4 => ?_⟩
      rw [merge_fresh (by rw [List.nil_append]; exact nm_nodup (wo_ok mok)), List.nil_append]
      have u5 := u4.trans (Same.new (o := .dK (nmK (wo ms one))) na4)
      have w5 := w4.trans (Same.new (o := .dK (nmK (wo ms one))) na4)
      refine ⟨by show (7 : Nat) ≤ sizeLine; decide +kernel, fun W nW => ?_⟩
      have w6 := Same.new (o := .lst [.non, .int 0, .ref a1, .ref a2, .str "", .ref a3, .ref a4]) nW
      have g0 : Got K H (upd (upd G7 a4 (.dK (nmK (wo ms one)))) W (.lst [.non, .int 0, .ref a1, .ref a2, .str "", .ref a3, .ref a4])) fs W [.non, .int 0, .ref a1, .ref a2, .str "", .ref a3, .ref a4] := by
        refine ⟨u5.trans w6, upd_same, u5.free nW, fun y hy => ?_, by show (7 : Nat) ≤ 60; decide⟩
        have v5 := w5.trans w6
        simp only [List.mem_cons, List.not_mem_nil, or_false] at hy
        rcases hy with rfl | rfl | rfl | rfl | rfl | rfl | rfl
        · exact .inl .non
        · exact .inl (.int 0)
        · exact .inl (.lst (v5 _ _ h12))
        · exact .inl (.lst (v5 _ _ h2))
        · exact .inl (.str _)
        · exact .inl (.tup (((x4.trans (Same.new na4)).trans w6) _ _ h3))
        · obtain ⟨q0, hq0, e0⟩ := List.mem_map.mp hone
          obtain ⟨e1, he1, en⟩ := own q0 hq0
          refine .inr (.inr ⟨a4, _, rfl, w6 _ _ upd_same, wo_ok mok, e1, he1, look_none fun p hp => ?_⟩)
          rw [en, e0]
          simpa using (List.mem_filter.mp hp).2
      generalize upd (upd G7 a4 (.dK (nmK (wo ms one)))) W (.lst [.non, .int 0, .ref a1, .ref a2, .str "", .ref a3, .ref a4]) = G8 at g0
      have hd8 := g0.s _ _ hd
      refine ⟨_, rfl, by show (1 : Nat) ≤ sizeLine; decide +kernel, fun ta nta => ?_⟩
      refine ⟨by show (8 : Nat) ≤ sizeLine; decide +kernel, fun la nla => ?_⟩
      have taW : ta ≠ W := fun e => by rw [e, g0.h] at nta; cases nta
      have laW : la ≠ W := fun e => by rw [e, upd_ne taW.symm, g0.h] at nla; cases nla
      have onel : one.length ≤ 100000 := by
        obtain ⟨q0, hq0, e0⟩ := List.mem_map.mp hone
        rw [← e0]
        exact Nat.le_trans (mok.k q0 hq0).1.len (by decide)
      have gA : Got K H (upd (upd G8 ta (.tup [.str "a"])) la (.lst [.str w9, .str "", .non, .int 1, .bl true, .str "A", .str "a b", .ref ta])) fs W [.non, .int 0, .ref a1, .ref a2, .str "", .ref a3, .ref a4] := by
        have v5 := (Same.new (o := .tup [V.str "a"]) nta).trans (Same.new (o := .lst [.str w9, .str "", .non, .int 1, .bl true, .str "A", .str "a b", .ref ta]) nla)
        exact ⟨g0.s.trans v5, v5 _ _ g0.h, g0.n, fun y hy => (g0.b y hy).same v5, g0.l⟩
      have hla : (upd (upd G8 ta (.tup [.str "a"])) la (.lst [.str w9, .str "", .non, .int 1, .bl true, .str "A", .str "a b", .ref ta])) la = some (.lst [.str w9, .str "", .non, .int 1, .bl true, .str "A", .str "a b", .ref ta]) := upd_same
      have hta : (upd (upd G8 ta (.tup [.str "a"])) la (.lst [.str w9, .str "", .non, .int 1, .bl true, .str "A", .str "a b", .ref ta])) ta = some (.tup [.str "a"]) := Same.new nla _ _ upd_same
      generalize upd (upd G8 ta (.tup [.str "a"])) la (.lst [.str w9, .str "", .non, .int 1, .bl true, .str "A", .str "a b", .ref ta]) = G9 at gA hla hta
      refine ⟨la, rfl, ⟨_, SqL.of hla⟩, ?_⟩
      refine for_it (walk_list (xs := [.str w9, .str "", .non, .int 1, .bl true, .str "A", .str "a b", .ref ta])) (fun i σ H' => ∃ s6 s7 s8 s9 s10 s11 : Option V, σ = [some (.ref p), some (.ref d), some (.ref g), some (.str one), some (.str w9), some (.ref W), s6, s7, s8, s9, s10, s11] ∧
        ∃ ys, Got K H H' fs W ys ∧ ys.length = 7 + i ∧ H' la = some (.lst [.str w9, .str "", .non, .int 1, .bl true, .str "A", .str "a b", .ref ta]) ∧ H' ta = some (.tup [.str "a"])) ⟨_, _, _, _, _, _, rfl, _, gA, rfl, hla, hta⟩ (fun i σ H' _ ⟨_, _, _, _, _, _, _, _, _, _, h, _⟩ => SqL.of h)
        (fun i x σ J J2 hi ⟨s6, s7, s8, s9, s10, s11, e, ys, got, ly, hl, ht⟩ y => ?_) (fun σ J ⟨s6, s7, s8, s9, s10, s11, e, ys, got, ly, hl, ht⟩ => ?_)
      · obtain ⟨rfl, hx⟩ := y
        subst e
        have hdJ := got.s _ _ hd
        have g30 := got.l
        refine ⟨_, rfl, .inl ⟨rfl, _, SqL.of got.h⟩, ?_⟩
        refine put_P (k := .inr one) (y := x) mok hdJ (fun R r => ⟨_, rfl, r⟩) (fun H2 R s r => ⟨_, rfl, r⟩) (fun H2 R s r => ⟨_, rfl, r _ (Same.refl _)⟩) fun pd J2 s2 hpd => ?_
        have hx2 : It K J2 x ∧ nB x = false := by
          have htt := s2 _ _ ht
          match i, hi, hx with
          | 0, _, hx => cases hx; exact ⟨.str _ w9_len, w9_no⟩
          | 1, _, hx => cases hx; exact ⟨.str _ (by decide +kernel), by decide +kernel⟩
          | 2, _, hx => cases hx; exact ⟨.non, rfl⟩
          | 3, _, hx => cases hx; exact ⟨.int 1, rfl⟩
          | 4, _, hx => cases hx; exact ⟨.bl true, rfl⟩
          | 5, _, hx => cases hx; exact ⟨.str _ (by decide +kernel), by decide +kernel⟩
          | 6, _, hx => cases hx; exact ⟨.str _ (by decide +kernel), by decide +kernel⟩
          | 7, _, hx => cases hx; exact ⟨.tup htt, rfl⟩
          | n + 8, hi, _ => exact absurd hi (Nat.not_lt.mpr (Nat.le_add_left 8 n))
        have bd : Bad K J2 fs (.ref pd) := bad_put mok hpd (fun z e => by cases e; exact onel) hx2.1 (.inr (.inl hx2.2))
        have hi8 : i < 8 := hi
        refine ⟨W, ys, .ref pd, rfl, rfl, s2 _ _ got.h, Nat.lt_of_le_of_lt got.l (by decide +kernel), ?_⟩
        exact ⟨_, _, _, _, _, _, rfl, _, got.step s2 bd (by omega), by rw [List.length_append, ly]; rfl, (upd_ne laW).trans (s2 _ _ hl), (upd_ne taW).trans (s2 _ _ ht)⟩
      · subst e
        have g30 := got.l
        have ly15 : ys.length = 15 := ly
        have hdJ := got.s _ _ hd
        clear hla hta hl ht gA g0 hd8
        dsimp only [gName]
        refine ⟨d, .dK (nmK ms), hdJ, trivial, fun od2 => ?_⟩
        refine ⟨_, rfl, d, od2, rfl, .inl ⟨nmK ms, upd_same, fun D3 nD3 => ?_⟩⟩
        refine lc_fil walk_keys nD3 (by rw [lk]; omega) (fun _ sm => sm _ _ upd_same) (fun i => (nmK ms)[i]?.bind fun kv => if kv.1 = Sum.inr one then none else (match kv.1 with | .inr z => some z | _ => none)) (fun _ v (z : Str) => v = V.str z)
          (fun H H' v c s h => h) (fun H xs ys v c hD h => h) (fun i x H4 H5 Kn Z hi sm _ y q n => ?_) (fun H4 zs4 sm4 hD4 hp4' => ?_)
        · obtain ⟨rfl, kk, vv, hkv, rfl⟩ := y
          rw [hkv, Option.bind_some] at q n
          obtain ⟨m, hm, rfl, rfl⟩ := nm_at hkv
          refine ⟨rfl, _, rfl, _, rfl, rfl, _, rfl, ?_⟩
          by_cases c : m.1 = one
          · rw [show (!decide (kV (Sum.inr m.1) = V.str one)) = false by simp [kV, c]]
            exact iteF (n (by rw [if_pos (by rw [c])]) _ (Same.refl _))
          · rw [show (!decide (kV (Sum.inr m.1) = V.str one)) = true by simp [kV, c]]
            exact iteT ⟨_, rfl, q _ m.1 _ (by rw [if_neg fun z => c (Sum.inr.inj z)]) (Same.refl _) rfl⟩
        rw [range_fil] at hp4'
        rw [show (nmK ms).filterMap (fun kv => if kv.1 = Sum.inr one then none else (match kv.1 with | .inr z => some z | _ => none)) = others ms one from rfl] at hp4'
        obtain rfl := strs_pd hp4'
        have fz4 := sm4 _ _ upd_same
        refine ⟨fz4, ?_⟩
        have y4 := lock_same hdJ sm4
        have hD4' : (upd H4 d (.dK (nmK ms))) D3 = some (.lst ((others ms one).map V.str)) := (upd_ne fun z => by rw [z, fz4] at hD4; cases hD4).trans hD4
        have got2 := got.same y4
        generalize upd H4 d (.dK (nmK ms)) = J5 at got2 hD4'
        clear y4 sm4 fz4 hD4 hp4' got
        dsimp only [gName]
        refine seq_cut (fun σ' H' => ∃ ys', σ' = [some (.ref p), some (.ref d), some (.ref g), some (.str one), some (.str w9), some (.ref W), s6, some (.ref D3), s8, s9, s10, s11] ∧ Got K H H' fs W ys' ∧ ys'.length ≤ 16 ∧ 0 < ys'.length) (fun σ' H' q => ?_) (fun main => ?_)
        rotate_left
        · have oth : ∀ z ∈ others ms one, Wd z := fun z hz => by
            obtain ⟨_, q, hq, e⟩ := others_of hz
            rw [← e]
            exact (mok.k q hq).1
          refine ⟨_, rfl, by show (0 : Nat) ≤ sizeLine; decide +kernel, fun nb nnb => ?_⟩
          have gotb := got2.same (Same.new (o := .lst []) nnb)
          have hDb := Same.new (o := .lst []) nnb _ _ hD4'
          refine ss_ne (SqL.of hDb) (SqL.of upd_same) oth ⟨_, rfl, ?_⟩
          generalize upd J5 nb (.lst []) = J6 at gotb hDb
          by_cases c : others ms one = []
          · rw [decide_eq_false (by rw [c]; exact fun z => z rfl)]
            exact iteF (main _ _ ⟨ys, rfl, gotb, by rw [ly15]; decide, by rw [ly15]; decide⟩)
          · rw [decide_eq_true c]
            refine iteT ?_
            obtain ⟨z1, rest, ez⟩ := List.exists_cons_of_ne_nil c
            obtain ⟨n1, q1, hq1, e1⟩ := others_of (z := z1) (by rw [ez]; exact List.mem_cons_self ..)
            refine ⟨_, rfl, .inl ⟨rfl, _, SqL.of gotb.h⟩, ?_⟩
            refine put_P (k := .inr one) (y := .str q1.2) mok (gotb.s _ _ hd) (fun R r => ⟨_, rfl, r⟩) (fun H2 R s r => ⟨_, rfl, r⟩) (fun H2 R s r => ?_) fun pd J7 s7 hpd => ?_
            · refine ⟨_, rfl, _, rfl, D3, _, 0, .str z1, rfl, rfl, SqL.of (s _ _ hDb), by rw [ez]; exact at0, d, _, rfl, ?_, r _ (Same.refl _)⟩
              exact .inl ⟨nmK ms, .inr z1, .inl (s _ _ (gotb.s _ _ hd)), rfl, by rw [valV_nm, ← e1, look_mem mok.nd hq1]; rfl⟩
            have bd : Bad K J7 fs (.ref pd) := bad_put mok hpd (fun z e => by cases e; exact onel) (.str _ (Nat.le_trans (mok.k q1 hq1).2.len (by decide))) (.inr (.inr ⟨q1, hq1, fun e => n1 (by rw [← e1]; exact Sum.inr.inj e), rfl⟩))
            refine ⟨W, ys, .ref pd, rfl, rfl, s7 _ _ gotb.h, Nat.lt_of_le_of_lt g30 (by decide +kernel), ?_⟩
            exact main _ _ ⟨_, rfl, gotb.step s7 bd (by rw [ly15]; decide), by rw [List.length_append, ly15]; show 15 + 1 ≤ 16; decide, by rw [List.length_append]; exact Nat.succ_pos _⟩
        · obtain ⟨ys2, rfl, got3, ly3, lp3⟩ := q
          have hg3 := got3.s _ _ hg
          have hd3 := got3.s _ _ hd
          clear got2 hD4'
          refine ⟨_, rfl, g, rfl, ⟨_, SqL.of hg3⟩, fun D4 nD4 => ?_⟩
          refine lc_fil (walk_list (xs := ts.map V.str)) nD4 (by rw [List.length_map]; omega) (fun _ sm => SqL.of (sm _ _ hg3)) (fun i => ts[i]?.bind fun z => if id z ∈ ms.map (·.1) then none else some z) (fun _ v (z : Str) => v = V.str z)
            (fun H H' v c s h => h) (fun H xs ys v c hD h => h) (fun i x H4 H5 Kn Z hi sm _ y q n => ?_) (fun H4 zs4 sm4 hD4 hp4 => ?_)
          · obtain ⟨rfl, hx⟩ := y
            rw [List.getElem?_map] at hx
            obtain ⟨z, hz, rfl⟩ := Option.map_eq_some_iff.mp hx
            rw [hz, Option.bind_some] at q n
            refine ⟨rfl, _, rfl, _, rfl, d, _, rfl, .inl ⟨nmK ms, .inr z, .inl (sm _ _ hd3), rfl, rfl⟩, _, rfl, ?_⟩
            rw [valV_nm, Option.isSome_map, look_iff]
            by_cases c : z ∈ ms.map (·.1)
            · rw [decide_eq_true c]
              exact iteF (n (by rw [if_pos (show id z ∈ _ from c)]) _ (Same.refl _))
            · rw [decide_eq_false c]
              exact iteT ⟨_, rfl, q _ z _ (by rw [if_neg (show ¬ id z ∈ _ from c)]) (Same.refl _) rfl⟩
          rw [List.length_map, range_fil] at hp4
          obtain ⟨spare, srest, ehd, sin, snot⟩ := fil_head (k := id) (m := ms.map (·.1)) (l := ts) (by rw [List.map_id]; exact tok.nd) (by rw [List.length_map]; exact lt)
          rw [ehd] at hp4
          obtain rfl := strs_pd hp4
          refine ⟨D4, _, 0, .str spare, rfl, rfl, SqL.of hD4, at0, ?_⟩
          have got4 := got3.same sm4
          have spl : spare.length ≤ 100000 := Nat.le_trans (tok.ok _ sin).len (by decide)
          obtain ⟨qo, hqo, eqo⟩ := List.mem_map.mp hone
          clear got3 sm4 hp4 hg3 hd3 hD4 ehd
          have hd4 := got4.s _ _ hd
          refine ⟨_, rfl, _, rfl, d, .str qo.2, rfl, .inl ⟨nmK ms, .inr one, .inl hd4, rfl, by rw [valV_nm, ← eqo, look_mem mok.nd hqo]; rfl⟩, _, rfl, by show (1 : Nat) ≤ sizeLine; decide +kernel, fun tb ntb => ?_⟩
          refine ⟨by show (8 : Nat) ≤ sizeLine; decide +kernel, fun lb nlb => ?_⟩
          have tbW : tb ≠ W := fun e => by rw [e, got4.h] at ntb; cases ntb
          have lbW : lb ≠ W := fun e => by rw [e, upd_ne tbW.symm, got4.h] at nlb; cases nlb
          have gB : Got K H (upd (upd H4 tb (.tup [.str "a"])) lb (.lst [.str qo.2, .str w9, .str "", .non, .int 1, .bl true, .str "A", .ref tb])) fs W ys2 := (got4.same (Same.new ntb)).same (Same.new nlb)
          have hlb : (upd (upd H4 tb (.tup [.str "a"])) lb (.lst [.str qo.2, .str w9, .str "", .non, .int 1, .bl true, .str "A", .ref tb])) lb = some (.lst [.str qo.2, .str w9, .str "", .non, .int 1, .bl true, .str "A", .ref tb]) := upd_same
          have htb : (upd (upd H4 tb (.tup [.str "a"])) lb (.lst [.str qo.2, .str w9, .str "", .non, .int 1, .bl true, .str "A", .ref tb])) tb = some (.tup [.str "a"]) := Same.new nlb _ _ upd_same
          generalize upd (upd H4 tb (.tup [.str "a"])) lb (.lst [.str qo.2, .str w9, .str "", .non, .int 1, .bl true, .str "A", .ref tb]) = J9 at gB hlb htb
          refine ⟨lb, rfl, ⟨_, SqL.of hlb⟩, ?_⟩
          refine for_it (walk_list (xs := [.str qo.2, .str w9, .str "", .non, .int 1, .bl true, .str "A", .ref tb])) (fun i σ H' => ∃ s6 s9 s10 s11 : Option V, σ = [some (.ref p), some (.ref d), some (.ref g), some (.str one), some (.str w9), some (.ref W), s6, some (.ref D3), some (.str spare), s9, s10, s11] ∧
            ∃ ys, Got K H H' fs W ys ∧ ys.length ≤ 16 + i ∧ 0 < ys.length ∧ H' lb = some (.lst [.str qo.2, .str w9, .str "", .non, .int 1, .bl true, .str "A", .ref tb]) ∧ H' tb = some (.tup [.str "a"])) ⟨_, _, _, _, rfl, _, gB, ly3, lp3, hlb, htb⟩ (fun i σ H' _ ⟨_, _, _, _, _, _, _, _, _, h, _⟩ => SqL.of h)
            (fun i x σ J J2 hi ⟨s6, s9, s10, s11, e, ys, got, ly, lp, hl, ht⟩ y => ?_) (fun σ J ⟨s6, s9, s10, s11, e, ys, got, ly, lp, hl, ht⟩ => ?_)
          · obtain ⟨rfl, hx⟩ := y
            subst e
            have hdJ := got.s _ _ hd
            refine ⟨_, rfl, .inl ⟨rfl, _, SqL.of got.h⟩, ?_⟩
            refine put_P (k := .inr spare) (y := x) mok hdJ (fun R r => ⟨_, rfl, r⟩) (fun H2 R s r => ⟨_, rfl, r⟩) (fun H2 R s r => ⟨_, rfl, r _ (Same.refl _)⟩) fun pd J2 s2 hpd => ?_
            have hx2 : It K J2 x ∧ (nB x = false ∨ x = .str qo.2) := by
              have htt := s2 _ _ ht
              match i, hi, hx with
              | 0, _, hx => cases hx; exact ⟨.str _ (Nat.le_trans (mok.k qo hqo).2.len (by decide)), .inr rfl⟩
              | 1, _, hx => cases hx; exact ⟨.str _ w9_len, .inl w9_no⟩
              | 2, _, hx => cases hx; exact ⟨.str _ (by decide +kernel), .inl (by decide +kernel)⟩
              | 3, _, hx => cases hx; exact ⟨.non, .inl rfl⟩
              | 4, _, hx => cases hx; exact ⟨.int 1, .inl rfl⟩
              | 5, _, hx => cases hx; exact ⟨.bl true, .inl rfl⟩
              | 6, _, hx => cases hx; exact ⟨.str _ (by decide +kernel), .inl (by decide +kernel)⟩
              | 7, _, hx => cases hx; exact ⟨.tup htt, .inl rfl⟩
              | n + 8, hi, _ => exact absurd hi (Nat.not_lt.mpr (Nat.le_add_left 8 n))
            have bd : Bad K J2 fs (.ref pd) := bad_put mok hpd (fun z e => by cases e; exact spl) hx2.1 (by
              rcases hx2.2 with b | b
              · exact .inr (.inl b)
              · exact .inr (.inr ⟨qo, hqo, fun e => snot (List.mem_map.mpr ⟨qo, hqo, Sum.inr.inj e⟩), b.symm⟩))
            have hi8 : i < 8 := hi
            refine ⟨W, ys, .ref pd, rfl, rfl, s2 _ _ got.h, Nat.lt_of_le_of_lt got.l (by decide +kernel), ?_⟩
            exact ⟨_, _, _, _, rfl, _, got.step s2 bd (by omega), by rw [List.length_append]; show ys.length + 1 ≤ 16 + (i + 1); omega, by rw [List.length_append]; exact Nat.lt_of_lt_of_le lp (Nat.le_add_right _ _), (upd_ne lbW).trans (s2 _ _ hl), (upd_ne tbW).trans (s2 _ _ ht)⟩
          · subst e
            have ly24 : ys.length ≤ 24 := ly
            have hdJ := got.s _ _ hd
            clear hlb htb hl ht gB got4 hd4
            dsimp only [gName]
            refine ⟨_, rfl, by show (1 : Nat) ≤ sizeLine; decide +kernel, fun tc ntc => ?_⟩
            refine ⟨by show (6 : Nat) ≤ sizeLine; decide +kernel, fun lc nlc => ?_⟩
            have tcW : tc ≠ W := fun e => by rw [e, got.h] at ntc; cases ntc
            have lcW : lc ≠ W := fun e => by rw [e, upd_ne tcW.symm, got.h] at nlc; cases nlc
            have gC : Got K H (upd (upd J tc (.tup [.str "a"])) lc (.lst [.int 1, .non, .str "", .str "A1", .str w9, .ref tc])) fs W ys := (got.same (Same.new ntc)).same (Same.new nlc)
            have hlc : (upd (upd J tc (.tup [.str "a"])) lc (.lst [.int 1, .non, .str "", .str "A1", .str w9, .ref tc])) lc = some (.lst [.int 1, .non, .str "", .str "A1", .str w9, .ref tc]) := upd_same
            have htc : (upd (upd J tc (.tup [.str "a"])) lc (.lst [.int 1, .non, .str "", .str "A1", .str w9, .ref tc])) tc = some (.tup [.str "a"]) := Same.new nlc _ _ upd_same
            generalize upd (upd J tc (.tup [.str "a"])) lc (.lst [.int 1, .non, .str "", .str "A1", .str w9, .ref tc]) = J10 at gC hlc htc
            obtain ⟨fr, frest, efr, frin, frnot⟩ := fil_head (k := id) (m := ms.map (·.2)) (l := ts) (by rw [List.map_id]; exact tok.nd) (by rw [List.length_map]; exact lt)
            have frl : fr.length ≤ 100000 := Nat.le_trans (tok.ok _ frin).len (by decide)
            refine ⟨lc, rfl, ⟨_, SqL.of hlc⟩, ?_⟩
            refine for_it (walk_list (xs := [.int 1, .non, .str "", .str "A1", .str w9, .ref tc])) (fun i σ H' => ∃ s6 s9 s10 s11 : Option V, σ = [some (.ref p), some (.ref d), some (.ref g), some (.str one), some (.str w9), some (.ref W), s6, some (.ref D3), some (.str spare), s9, s10, s11] ∧
              ∃ ys, Got K H H' fs W ys ∧ ys.length ≤ 24 + i ∧ 0 < ys.length ∧ H' lc = some (.lst [.int 1, .non, .str "", .str "A1", .str w9, .ref tc]) ∧ H' tc = some (.tup [.str "a"])) ⟨_, _, _, _, rfl, _, gC, ly24, lp, hlc, htc⟩ (fun i σ H' _ ⟨_, _, _, _, _, _, _, _, _, h, _⟩ => SqL.of h)
              (fun i x σ J J2 hi ⟨s6, s9, s10, s11, e, ys, got, ly, lp, hl, ht⟩ y => ?_) (fun σ J ⟨s6, s9, s10, s11, e, ys, got, ly, lp, hl, ht⟩ => ?_)
            · obtain ⟨rfl, hx⟩ := y
              subst e
              have hdJ := got.s _ _ hd
              have hgJ := got.s _ _ hg
              refine ⟨_, rfl, .inl ⟨rfl, _, SqL.of got.h⟩, ?_⟩
              refine put_read (x := x) (y := .str fr) mok hdJ (fun R r => ⟨_, rfl, r⟩) (fun H2 R s r => ⟨_, rfl, r⟩) (fun H2 R s r => ?_) fun ll tt us J2 s2 hll hus htt => ?_
              · refine ⟨_, rfl, g, rfl, ⟨_, SqL.of (s _ _ hgJ)⟩, fun D5 nD5 => ?_⟩
                refine lc_fil (walk_list (xs := ts.map V.str)) nD5 (by rw [List.length_map]; omega) (fun _ sm => SqL.of (sm _ _ (s _ _ hgJ))) (fun i => ts[i]?.bind fun z => if id z ∈ ms.map (·.2) then none else some z) (fun _ v (z : Str) => v = V.str z)
                  (fun H H' v c s h => h) (fun H xs ys v c hD h => h) (fun i x H4 H5 Kn Z hi sm _ y q n => ?_) (fun H4 zs4 sm4 hD5 hp5 => ?_)
                · obtain ⟨rfl, hx⟩ := y
                  rw [List.getElem?_map] at hx
                  obtain ⟨z, hz, rfl⟩ := Option.map_eq_some_iff.mp hx
                  rw [hz, Option.bind_some] at q n
                  have hd5 := sm _ _ (s _ _ hdJ)
                  refine ⟨rfl, _, rfl, _, rfl, d, _, rfl, .inr ⟨nmK ms, hd5, nm_flat.symm⟩, fun vw nvw => ?_⟩
                  refine ⟨vw, d, ms, z, rfl, rfl, upd_same, .inr ⟨nmK ms, Same.new nvw _ _ hd5, nm_flat.symm⟩, (tok.ok z (List.mem_of_getElem? hz)).ok, fun q hq => (mok.k q hq).2.ok, _, rfl, ?_⟩
                  by_cases c : z ∈ ms.map (·.2)
                  · rw [decide_eq_false (fun n => n c)]
                    exact iteF (n (by rw [if_pos (show id z ∈ _ from c)]) _ (Same.new nvw))
                  · rw [decide_eq_true c]
                    exact iteT ⟨_, rfl, q _ z _ (by rw [if_neg (show ¬ id z ∈ _ from c)]) (Same.new nvw) rfl⟩
                rw [List.length_map, range_fil, efr] at hp5
                obtain rfl := strs_pd hp5
                exact ⟨D5, _, 0, .str fr, rfl, rfl, SqL.of hD5, at0, r _ sm4⟩
              · refine odd_read (x := x) (fs := fs) mok hll hus htt frl ?_ fun pd J3 s3 bd => ?_
                · have hat := s2 _ _ ht
                  match i, hi, hx with
                  | 0, _, hx => cases hx; exact .inl ⟨1, rfl⟩
                  | 1, _, hx => cases hx; exact .inr (.inr (.inl rfl))
                  | 2, _, hx => cases hx; exact .inr (.inl ⟨_, rfl, by decide +kernel, by decide +kernel⟩)
                  | 3, _, hx => cases hx; exact .inr (.inl ⟨_, rfl, by decide +kernel, by decide +kernel⟩)
                  | 4, _, hx => cases hx; exact .inr (.inl ⟨_, rfl, w9_len, w9_no⟩)
                  | 5, _, hx => cases hx; exact .inr (.inr (.inr ⟨tc, "a", rfl, hat, by decide +kernel, by decide +kernel⟩))
                  | n + 6, hi, _ => exact absurd hi (Nat.not_lt.mpr (Nat.le_add_left 6 n))
                · have hi6 : i < 6 := hi
                  have s23 := s2.trans s3
                  refine ⟨W, ys, .ref pd, rfl, rfl, s23 _ _ got.h, Nat.lt_of_le_of_lt got.l (by decide +kernel), ?_⟩
                  exact ⟨_, _, _, _, rfl, _, got.step s23 bd (by omega), by rw [List.length_append]; show ys.length + 1 ≤ 24 + (i + 1); omega, by rw [List.length_append]; exact Nat.lt_of_lt_of_le lp (Nat.le_add_right _ _), (upd_ne lcW).trans (s23 _ _ hl), (upd_ne tcW).trans (s23 _ _ ht)⟩
            · subst e
              have ly30 : ys.length ≤ 30 := ly
              have hpJ := got.s _ _ hp
              refine ⟨_, rfl, _, rfl, ?_⟩
              exact ⟨p, W, ys, rfl, hpJ, SqL.of got.h, lp, by omega, fun y H' hy s => k y H' (got.s.trans s) ((got.b y hy).same s)⟩
end
end K12

set_option Elab.async false
set_option linter.all false
set_option maxRecDepth 100000
set_option maxHeartbeats 4000000
namespace K12
open PySem L2 Lay Own SrtO LamX Od
/-! ### what a renaming does to entries -/
theorem look_in {ms : List (Str × Str)} {z v : Str} (h : look ms z = some v) : (z, v) ∈ ms := by
  unfold look at h
  obtain ⟨p, hp, rfl⟩ := Option.map_eq_some_iff.mp h
  have h1 := List.find?_some hp
  have h2 := List.mem_of_find?_eq_some hp
  have e : p.1 = z := of_decide_eq_true h1
  rw [← e]
  exact h2
theorem look_inj {ms : List (Str × Str)} {a b v : Str} (ok : MsOk ms) (h : look ms a = some v) (g : look ms b = some v) : a = b := by
  have z := nodup_one ok.vd _ (look_in h) _ (look_in g) rfl
  exact congrArg Prod.fst z
theorem min_perm {a : Int} {l m : List Int} (p : l.Perm m) (h : IsMin a l) : IsMin a m := ⟨p.mem_iff.mp h.1, fun x hx => h.2 x (p.mem_iff.mpr hx)⟩
theorem max_perm {a : Int} {l m : List Int} (p : l.Perm m) (h : IsMax a l) : IsMax a m := ⟨p.mem_iff.mp h.1, fun x hx => h.2 x (p.mem_iff.mpr hx)⟩
theorem es_perm {es fs : List Ent} (p : fs.Perm es) (ok : EsOk es) : EsOk fs :=
  ⟨by rw [p.length_eq]; exact ok.l0, by rw [p.length_eq]; exact ok.l1, p.nodup_iff.mpr ok.nd, fun e he => ok.ok e (p.mem_iff.mp he)⟩
theorem kn_perm {es fs hs : List Ent} {n1 n2 : Int} (due : Due fs) (p : fs.Perm es) (k : Kn es hs n1 n2) : hs = fs ∧ n1 ≤ 3 ∧ n2 ≤ 3 := by
  obtain ⟨⟨lo, bo, hl, hb, pm, sd⟩, x, y⟩ := k
  exact kn_due due ⟨⟨lo, bo, min_perm (p.symm.map _) hl, min_perm (p.symm.map _) hb, pm.trans (p.symm.map _), sd⟩, x, y⟩
section
variable {ms : List (Str × Str)} {es fs : List Ent}
theorem ren_some (hin : ∀ e ∈ es, (look ms e.2.2).isSome = true) {e : Ent} (he : e ∈ es) : ∃ v, look ms e.2.2 = some v ∧ ren ms e = (e.1, e.2.1, v) := by
  obtain ⟨v, hv⟩ := Option.isSome_iff_exists.mp (hin e he)
  exact ⟨v, hv, by unfold ren; rw [hv]; rfl⟩
theorem ren_nd (ok : MsOk ms) (nd : es.Nodup) (hin : ∀ e ∈ es, (look ms e.2.2).isSome = true) : (es.map (ren ms)).Nodup := by
  rw [List.nodup_iff_pairwise_ne, List.pairwise_map]
  refine (List.nodup_iff_pairwise_ne.mp nd).imp_of_mem fun {e f} he hf n q => n ?_
  obtain ⟨v, h1, h2⟩ := ren_some hin he
  obtain ⟨u, g1, g2⟩ := ren_some hin hf
  rw [h2, g2] at q
  obtain ⟨a, b, c⟩ := e
  obtain ⟨a', b', c'⟩ := f
  simp only [Prod.mk.injEq] at q
  obtain ⟨q1, q2, q3⟩ := q
  subst q3
  have q1' : a = a' := q1
  have q2' : b = b' := q2
  have q3' : c = c' := look_inj ok h1 g1
  rw [q1', q2', q3']
theorem ren_ok (ok : MsOk ms) (due : Due es) (hin : ∀ e ∈ es, (look ms e.2.2).isSome = true) : EsOk (es.map (ren ms)) := by
  refine ⟨by rw [List.length_map]; exact due.ok.l0, by rw [List.length_map]; exact due.ok.l1, ren_nd ok due.ok.nd hin, fun g hg => ?_⟩
  obtain ⟨e, he, rfl⟩ := List.mem_map.mp hg
  obtain ⟨v, h1, h2⟩ := ren_some hin he
  obtain ⟨b1, b2, b3, b4⟩ := due.bd e he
  rw [h2]
  exact Wd.eok (e := (e.1, e.2.1, v)) (ok.k _ (look_in h1)).2 (by show -20 ≤ e.1; omega) (by show e.1 ≤ 20; omega) (by show -20 ≤ e.2.1; omega) (by show e.2.1 ≤ 20; omega)
theorem ren_due (ok : MsOk ms) (due : Due es) (hin : ∀ e ∈ es, (look ms e.2.2).isSome = true) (p : fs.Perm (es.map (ren ms))) (sd : Sd entLt fs) : Due fs := by
  have e1 : (es.map (ren ms)).map (·.1) = es.map (·.1) := by rw [List.map_map]; rfl
  have e2 : (es.map (ren ms)).map (·.2.1) = es.map (·.2.1) := by rw [List.map_map]; rfl
  refine ⟨es_perm p (ren_ok ok due hin), sd, min_perm (p.symm.map _) (by rw [e1]; exact due.x0), min_perm (p.symm.map _) (by rw [e2]; exact due.y0), fun g hg => ?_, fun g hg => ?_⟩
  · obtain ⟨e, he, rfl⟩ := List.mem_map.mp (p.mem_iff.mp hg)
    exact due.le e he
  · obtain ⟨e, he, rfl⟩ := List.mem_map.mp (p.mem_iff.mp hg)
    obtain ⟨v, h1, h2⟩ := ren_some hin he
    rw [h2]
    exact (ok.k _ (look_in h1)).2
/-- back -/
def bk (ms : List (Str × Str)) : List (Str × Str) := ms.map fun q => (q.2, q.1)
theorem bk_ok (ok : MsOk ms) : MsOk (bk ms) := by
  have e1 : (bk ms).map (·.1) = ms.map (·.2) := by unfold bk; rw [List.map_map]; rfl
  have e2 : (bk ms).map (·.2) = ms.map (·.1) := by unfold bk; rw [List.map_map]; rfl
  refine ⟨fun p hp => ?_, by rw [e1]; exact ok.vd, by rw [e2]; exact ok.nd, by unfold bk; rw [List.length_map]; exact ok.l⟩
  obtain ⟨q, hq, rfl⟩ := List.mem_map.mp hp
  exact ⟨(ok.k q hq).2, (ok.k q hq).1⟩
theorem bk_look (ok : MsOk ms) {z v : Str} (h : look ms z = some v) : look (bk ms) v = some z := look_mem (bk_ok ok).nd (List.mem_map.mpr ⟨_, look_in h, rfl⟩)
theorem bk_ren (ok : MsOk ms) (hin : ∀ e ∈ es, (look ms e.2.2).isSome = true) {e : Ent} (he : e ∈ es) : ren (bk ms) (ren ms e) = e := by
  obtain ⟨v, h1, h2⟩ := ren_some hin he
  rw [h2]
  unfold ren
  show (e.1, e.2.1, (look (bk ms) v).getD v) = e
  rw [bk_look ok h1]
  rfl
theorem bk_map (ok : MsOk ms) (hin : ∀ e ∈ es, (look ms e.2.2).isSome = true) : (es.map (ren ms)).map (ren (bk ms)) = es := by
  rw [List.map_map]
  have : ∀ l : List Ent, (∀ e ∈ l, e ∈ es) → l.map (ren (bk ms) ∘ ren ms) = l := by
    intro l
    induction l with
    | nil => intro _; rfl
    | cons a t ih =>
      intro h
      rw [List.map_cons, ih fun e he => h e (List.mem_cons_of_mem _ he)]
      show ren (bk ms) (ren ms a) :: t = a :: t
      rw [bk_ren ok hin (h a (List.mem_cons_self ..))]
  exact this es fun e he => he
theorem bk_perm (ok : MsOk ms) (hin : ∀ e ∈ es, (look ms e.2.2).isSome = true) (p : fs.Perm (es.map (ren ms))) : es.Perm (fs.map (ren (bk ms))) := by
  have z := (p.map (ren (bk ms))).symm
  rw [bk_map ok hin] at z
  exact z
theorem bk_in (ok : MsOk ms) (hin : ∀ e ∈ es, (look ms e.2.2).isSome = true) (p : fs.Perm (es.map (ren ms))) : ∀ f ∈ fs, (look (bk ms) f.2.2).isSome = true := fun f hf => by
  obtain ⟨e, he, rfl⟩ := List.mem_map.mp (p.mem_iff.mp hf)
  obtain ⟨v, h1, h2⟩ := ren_some hin he
  rw [h2]
  show (look (bk ms) v).isSome = true
  rw [bk_look ok h1]
  rfl
/-- the own names alone -/
def od (ms : List (Str × Str)) (ow : List Str) : List (Str × Str) := ow.map fun z => (z, (look ms z).getD z)
theorem od_ok {ow : List Str} (ok : MsOk ms) (nd : ow.Nodup) (l : ow.length ≤ 6) (hin : ∀ z ∈ ow, (look ms z).isSome = true) : MsOk (od ms ow) := by
  have e1 : (od ms ow).map (·.1) = ow := by unfold od; rw [List.map_map]; exact List.map_id ow
  have e2 : (od ms ow).map (·.2) = ow.map fun z => (look ms z).getD z := by unfold od; rw [List.map_map]; rfl
  refine ⟨fun p hp => ?_, by rw [e1]; exact nd, ?_, by unfold od; rw [List.length_map]; omega⟩
  · obtain ⟨z, hz, rfl⟩ := List.mem_map.mp hp
    obtain ⟨v, hv⟩ := Option.isSome_iff_exists.mp (hin z hz)
    have := ok.k _ (look_in hv)
    show Wd z ∧ Wd ((look ms z).getD z)
    rw [hv]
    exact this
  · rw [e2, List.nodup_iff_pairwise_ne, List.pairwise_map]
    refine (List.nodup_iff_pairwise_ne.mp nd).imp_of_mem fun {a b} ha hb n q => n ?_
    obtain ⟨v, hv⟩ := Option.isSome_iff_exists.mp (hin a ha)
    obtain ⟨u, hu⟩ := Option.isSome_iff_exists.mp (hin b hb)
    rw [hv, hu] at q
    have q' : v = u := q
    subst q'
    exact look_inj ok hv hu
end
end K12

set_option Elab.async false
set_option linter.all false
set_option maxRecDepth 100000
set_option maxHeartbeats 4000000
namespace K12
open PySem L2 Lay Own SrtO LamX Od PyProof.Rows
/-- the same, item by item: a flat one, or one and the same object -/
def SameV (x : V) : Prop := flatB x = true ∨ ∃ a, x = .ref a
def rNeF (K : PySem.W.Frag) : R2 := fun x y H Q => ∃ a b xs, x = .ref a ∧ y = .ref b ∧ SqL K H a xs ∧ SqL K H b xs ∧ (∀ z ∈ xs, SameV z) ∧ Q (.bl false) H
theorem op_neF {X : Cx} (hu : X.A.units + 64 < cLine) : OpR X (compareOp .NotEq) (rNeF X.K) := by
  intro pins s σ H x y v u Q I rx ry h
  obtain ⟨a, b, xs, rfl, rfl, ha, hb, sv, q⟩ := h
  cases (show v = Value.ref a from rx)
  cases (show u = Value.ref b from ry)
  obtain ⟨us, r1, p1, _⟩ := I.list ha
  obtain ⟨ws, r2, p2, _⟩ := I.list hb
  have hsz : us.toArray.size = ws.toArray.size := by
    rw [List.size_toArray, List.size_toArray, ← r1.length, ← r2.length]
  refine SeqAt.RcNeAt.lists (e := fun _ => true) p1.isList p2.isList hsz (by omega) (fun j h1 h2 => ?_) _ _ _ _ ?_
  · have l1 : j < us.length := by simpa using h1
    have l2 : j < ws.length := by simpa using h2
    obtain ⟨z, hz⟩ : ∃ z, xs[j]? = some z := ⟨_, List.getElem?_eq_getElem (by rw [r1.length]; exact l1)⟩
    obtain ⟨u1, e1, q1⟩ := r1.get hz
    obtain ⟨u2, e2, q2⟩ := r2.get hz
    have g1 : us.toArray[j] = u1 := by
      have := (List.getElem?_eq_some_iff.mp e1).2
      simpa using this
    have g2 : ws.toArray[j] = u2 := by
      have := (List.getElem?_eq_some_iff.mp e2).2
      simpa using this
    rw [g1, g2]
    rcases sv z (List.mem_of_getElem? hz) with f | ⟨c, rfl⟩
    · exact eqAt_same q1 q2 f
    · cases (show u1 = Value.ref c from q1)
      cases (show u2 = Value.ref c from q2)
      exact SeqAt.EqAt.same _
  · rw [show ((List.range us.toArray.size).all fun _ => true) = true from List.all_eq_true.mpr fun _ _ => rfl]
    exact ⟨.bl false, H, I, rfl, q⟩
theorem op_neDK {cx : Cx} {C : PySem.W.Frag} (h : cx.K = C) (hu : cx.A.units + 64 < cLine) : OpR cx (compareOp .NotEq) (rNeD C) := h ▸ op_neD hu
end K12

set_option Elab.async false
set_option linter.all false
set_option maxRecDepth 100000
set_option maxHeartbeats 4000000
namespace K12
open PySem L2 Lay Own SrtO LamX Od
local macro_rules | `(tactic| walk_at "ne") => `(tactic| first | assumption | (apply Ne.symm; assumption) | exact ne_of_none (by walk_at "look") (by assumption) | exact (ne_of_none (by walk_at "look") (by assumption)).symm)
local macro_rules | `(tactic| walk_at "look") => `(tactic| first | assumption | exact upd_same | (refine Eq.trans (upd_ne ?_) ?_; walk_at "ne"; walk_at "look"))
local macro_rules | `(tactic| walk_at "rds") => `(tactic| first | rfl | assumption | walk_at "look" | exact SqL.of (by walk_at "look") | exact SqT.of (by walk_at "look") | exact Or.inl (SqL.of (by walk_at "look")) | exact Or.inl (by assumption) | decide | omega | exact Nat.le_of_ble_eq_true rfl | exact Or.inr ⟨by decide, by decide⟩ | exact Or.inl ⟨by omega, by omega⟩ | exact ⟨by decide, by decide⟩)
local macro_rules | `(tactic| walk_at "rd1") => `(tactic| first | (apply Exists.intro) | (refine And.intro ?_ ?_; walk_at "rds") | (refine Or.inl ?_; apply Exists.intro; refine And.intro ?_ ?_; rfl))
local macro_rules | `(tactic| walk_at "rd") => `(tactic| repeat walk_at "rd1")
section
variable {P : Program} {w : World} {K : PySem.W.Frag} {mg : Str → Option Value} {base : Heap} {t : Tbs}
theorem laid {H : Hp} {p : Addr} {o : HO} (n : H p = none) : ∃ G : Hp, upd H p o = G ∧ L2.Same H G ∧ G p = some o := ⟨_, rfl, Same.new n, upd_same⟩
theorem str_sh {z : Str} (h : PyData.strOk z = true) : SeqAt.shaped (PyData.str z) = true := by
  show (PyData.canLay0 (.str z) && decide (PyData.depth (.str z) ≤ 64)) = true
  simp [PyData.canLay0, PyData.depth, h]
theorem any_eqv {ow : List Str} {z : Str} : ((ow.map PyData.str).any fun y => y.eqv (PyData.str z)) = decide (z ∈ ow) := by
  induction ow with
  | nil => simp
  | cons a t ih =>
    have e : (PyData.str a).eqv (PyData.str z) = decide (z = a) := by
      by_cases c : z = a
      · subst c; simp [PyData.eqv]
      · have c' : ¬ a = z := fun q => c q.symm
        simp [PyData.eqv, c, c']
    rw [List.map_cons, List.any_cons, ih, e]
    by_cases c : z = a
    · simp [c]
    · simp [c]
theorem cut_any {xs : List V} {i : Nat} : cutV xs none (some (i : Int)) = xs.take i := by
  by_cases h : i ≤ xs.length
  · exact cut_to h
  · have l : xs.length ≤ i := by omega
    unfold cutV
    rw [HT.sIx_none, HT.sIx_nat, Nat.min_eq_right l, List.drop_zero, List.take_of_length_le l]
    try simp
theorem fil_nodup {l : List Str} {m : List Str} (nd : l.Nodup) : (l.filterMap fun z => if id z ∈ m then none else some z).Nodup := by
  have e : (l.filterMap fun z => if id z ∈ m then none else some z) = l.filter fun z => decide (z ∉ m) := by
    induction l with
    | nil => rfl
    | cons a t ih =>
      rw [List.filterMap_cons, List.filter_cons, ih (List.nodup_cons.mp nd).2]
      by_cases c : a ∈ m
      · rw [if_pos (show id a ∈ _ from c), if_neg (by simp [c])]
      · rw [if_neg (show ¬ id a ∈ _ from c), if_pos (by simp [c])]
  rw [e]
  exact nd.filter _
theorem erase_map {α β : Type} {f : α → β} : ∀ {l : List α} {k : Nat}, (l.map f).eraseIdx k = (l.eraseIdx k).map f
  | [], _ => rfl
  | a :: l, 0 => rfl
  | a :: l, k + 1 => by
    show f a :: (l.map f).eraseIdx k = f a :: (l.eraseIdx k).map f
    rw [erase_map]
/-- all but lists and dicts stay -/
def Kp (H H' : Hp) : Prop := ∀ b o, H b = some o → (∀ xs, o ≠ .lst xs) → (∀ ks, o ≠ .dK ks) → H' b = some o
theorem EL.keep {H H' : Hp} {zs : List V} {es : List Ent} (h : EL H zs es) (k : Kp H H') : EL H' zs es := by
  induction h with
  | nil => exact .nil
  | cons h _ ih =>
    refine .cons ?_ ih
    obtain ⟨u, e, hu⟩ := h
    exact ⟨u, e, k _ _ hu (fun _ z => by cases z) (fun _ z => by cases z)⟩
theorem KindAt.keep {H H' : Hp} {a : Addr} {fs : List Ent} {m1 m2 : Int} (h : KindAt K H a fs m1 m2) (k : Kp H H') : KindAt K H' a fs m1 m2 := by
  obtain ⟨dx, tt, r, zs, h1, h2, h3, h4, h5⟩ := h
  exact ⟨dx, tt, r, zs, k _ _ h1 (fun _ z => by cases z) (fun _ z => by cases z), k _ _ h2 (fun _ z => by cases z) (fun _ z => by cases z), k _ _ h3 (fun _ z => by cases z) (fun _ z => by cases z), EL.keep h4 k, k _ _ h5 (fun _ z => by cases z) (fun _ z => by cases z)⟩
theorem Kp.lst {H : Hp} {b : Addr} {xs ys : List V} (h : H b = some (.lst xs)) : Kp H (upd H b (.lst ys)) := fun c o e n _ => by
  by_cases q : c = b
  · subst q
    rw [h] at e
    cases e
    exact absurd rfl (n xs)
  · exact (upd_ne q).trans e
theorem Kp.dk {H : Hp} {b : Addr} {xs ys : List (Key × V)} (h : H b = some (.dK xs)) : Kp H (upd H b (.dK ys)) := fun c o e _ n => by
  by_cases q : c = b
  · subst q
    rw [h] at e
    cases e
    exact absurd rfl (n xs)
  · exact (upd_ne q).trans e
theorem putK_new {l : List (Key × V)} {k : Key} {v : V} (nd : ((l ++ [(k, v)]).map (·.1)).Nodup) : putK l k v = l ++ [(k, v)] := by
  have h := merge_snoc (acc := l) (l := []) (k := k) (v := v)
  have g := merge_fresh (acc := l) (l := [(k, v)]) nd
  rw [← g]
  exact h.symm
theorem nt_lst {xs : List V} : ∀ ps, HO.lst xs ≠ .tbl ps := fun ps z => by cases z
theorem nt_pot {p : Addr} : ∀ ps, PotO p ≠ .tbl ps := fun ps z => by unfold PotO at z; cases z
theorem nt_dk {kvs : List (Key × V)} : ∀ ps, HO.dK kvs ≠ .tbl ps := fun ps z => by cases z
theorem EL.extN {H H' : Hp} {zs : List V} {es : List Ent} (h : EL H zs es) (k : ExtN H H') : EL H' zs es := by
  induction h with
  | nil => exact .nil
  | cons h _ ih =>
    refine .cons ?_ ih
    obtain ⟨u, e, hu⟩ := h
    exact ⟨u, e, k _ _ hu (fun _ z => by cases z)⟩
theorem KindAt.extN {H H' : Hp} {a : Addr} {fs : List Ent} {m1 m2 : Int} (h : KindAt K H a fs m1 m2) (k : ExtN H H') : KindAt K H' a fs m1 m2 := by
  obtain ⟨dx, tt, r, zs, h1, h2, h3, h4, h5⟩ := h
  exact ⟨dx, tt, r, zs, k _ _ h1 (fun _ z => by cases z), k _ _ h2 (fun _ z => by cases z), k _ _ h3 (fun _ z => by cases z), EL.extN h4 k, k _ _ h5 (fun _ z => by cases z)⟩
theorem bad_same {H : Hp} {fs : List Ent} {x : V} (h : Bad K H fs x) : SameV x := by
  rcases h with h | ⟨a, _, rfl, _⟩ | ⟨a, _, rfl, _⟩
  · cases h with
    | non => exact .inl rfl
    | int i => exact .inl rfl
    | str z => exact .inl rfl
    | lst h => exact .inr ⟨_, rfl⟩
    | tup h => exact .inr ⟨_, rfl⟩
  · exact .inr ⟨_, rfl⟩
  · exact .inr ⟨_, rfl⟩
def spRR (K : PySem.W.Frag) (t : Tbs) : Sp := fun vs H Q _ => ∃ p a g zs es ns, vs = [.ref p, .ref a, .ref g] ∧ H p = some (PotO p) ∧ H a = some (.lst zs) ∧ EL H zs es ∧ Due es ∧ H g = some (.lst (ns.map V.str)) ∧ NsOk ns ∧ ns.length ≤ 10 ∧ Tabs t.l H ∧
  ∀ H', ExtN H H' → Tabs t.l H' → Q (.bl true) H'
theorem d_rr (TT : TxT K mg base t) : Df P w K mg base 13 "_law_renamed_right" ["_law_pot_here", "_law_some", "_law_tags"] (spRR K t) := by
  have T := TT.T
  have D_l_draw := d_draw (P := P) (w := w) (base := base) T
  have D_l_names := d_lnames (P := P) (w := w) (base := base) T
  have D_l_pair_right := d_pair (P := P) (w := w) (base := base) T
  have D_l_bad := d_bad (P := P) (w := w) (base := base) T
  obtain ⟨mc, cr, ⟨p0, sta⟩, _⟩ := T.cr
  obtain ⟨fdr, G_rnm, _, _, K_rnm⟩ := d_rnm (P := P) (w := w) (base := base) T
  refine TT.b.by sc_l_renamed_right (fun vs H Q E h => ?_) (fun TB f A outer s H vs Q E hr hgd h => ?_)
  · obtain ⟨p, a, g, zs, es, ns, rfl, _⟩ := h; rfl
  · obtain ⟨p, a, g, zs, es, ns, rfl, hp, ha, el, due, hg, nok, ln, tb, k⟩ := h
    have hmT : (t.P1, lq "_law_renamed_right") ∈ t.l := by simp [Tbs.l]
    have hu := TT.u1
    refine ⟨_, (pss_cons (ps_asg (pe_tup (pa_cons (pe_callB  (Gs.cr_sortS rfl) (by rfl) T.n_sorted (by decide +kernel) (pa_cons (pe_callTy (Gs.cr_setS rfl) (by rfl) T.n_set (by decide +kernel) (pa_cons (pe_lc (own := [("_law_part_here", 15)]) rfl sc_l_renamed_right.nd (pi_list (pv 1)) (blkOk_by (own := [("_law_part_here", 15)]) (N := ["_law_pot_here", "_law_some", "_law_tags", "_law_own", "_law_goals", "_law_keys", "_law_known", "_law_made", "_law_key", "_law_due", "_law_kept", "_law_told", "_law_back", "_law_turn", "_law_bad_here", "_law_part_here", "_law_tag", "_law_one"]) (sc := defScope s_l_renamed_right) (by decide +kernel)) (fun _ _ _ _ _ => (pg_name (i := 15) sc_l_renamed_right.nd rfl (by first | exact Or.inl rfl | exact Or.inr rfl))) (fun _ _ _ _ _ => pts_nil) (fun _ _ _ _ _ => (pe_ix  (ix_tupK (C := K) rfl) (pv 15) pe_int (fun _ _ => rfl)))) pa_nil)) pa_nil)) (pa_cons (pe_own D_l_names (hr.mono (by first | decide | omega)) hgd (pa_cons (pv 0) (pa_cons pe_int pa_nil))) pa_nil))) (pg_tup rfl (pgs_cons (pg_name (i := 3) sc_l_renamed_right.nd rfl (by first | exact Or.inl rfl | exact Or.inr rfl)) (pgs_cons (pg_name (i := 4) sc_l_renamed_right.nd rfl (by first | exact Or.inl rfl | exact Or.inr rfl)) pgs_nil))))
      (pss_cons (ps_set (i := 5) sc_l_renamed_right.nd rfl (by first | exact Or.inl rfl | exact Or.inr rfl) (pe_op op_cat (pv 3) (pe_slice sl_list (pe_lc (own := [("_law_tag", 16)]) rfl sc_l_renamed_right.nd (pi_list (pv 2)) (blkOk_by (own := [("_law_tag", 16)]) (N := ["_law_pot_here", "_law_some", "_law_tags", "_law_own", "_law_goals", "_law_keys", "_law_known", "_law_made", "_law_key", "_law_due", "_law_kept", "_law_told", "_law_back", "_law_turn", "_law_bad_here", "_law_part_here", "_law_tag", "_law_one"]) (sc := defScope s_l_renamed_right) (by decide +kernel)) (fun _ _ _ _ _ => (pg_name (i := 16) sc_l_renamed_right.nd rfl (by first | exact Or.inl rfl | exact Or.inr rfl))) (fun _ _ _ _ _ => pts_one (pt_cmpR (op_notInDK (C := K) rfl (un65 hr)) (pv 16) (pv 3) (by rfl))) (fun _ _ _ _ _ => (pv 16))) po_none (po_some (pe_own D_l_draw (hr.mono (by first | decide | omega)) hgd (pa_cons (pv 0) (pa_cons pe_int pa_nil)))))))
      (pss_cons (ps_asg (pe_tup (pa_cons pe_dnewK (pa_cons (pe_staP (pe_glob (v := .ref (He.ga K "Kind")) (by rfl) T.g_Kind rfl) cr sta (d_of T).fp (hr.mono (by first | decide | omega)) hgd (pa_cons (pv 1) pa_nil)) pa_nil))) (pg_tup rfl (pgs_cons (pg_name (i := 6) sc_l_renamed_right.nd rfl (by first | exact Or.inl rfl | exact Or.inr rfl)) (pgs_cons (pg_name (i := 7) sc_l_renamed_right.nd rfl (by first | exact Or.inl rfl | exact Or.inr rfl)) pgs_nil))))
      (pss_cons (ps_for PassesOwn.never rfl (pi_list (pv 5)) (pg_name (i := 8) sc_l_renamed_right.nd rfl (by first | exact Or.inl rfl | exact Or.inr rfl)) (pss_one (ps_dput (hu_of hr) (pv 6) (pv 8) (pe_bm PySem.F.plainAttrs_list PySem.F.slot_list_pop PySem.F.type_list_pop mt_popAt (pv 4) (pa_cons (pe_own D_l_draw (hr.mono (by first | decide | omega)) hgd (pa_cons (pv 0) (pa_cons (pe_callB call_len_seq (by rfl) T.n_len PySem.boot_len (pa_cons (pv 4) pa_nil)) pa_nil))) pa_nil)) rfl)))
      (pss_cons (ps_set (i := 9) sc_l_renamed_right.nd rfl (by first | exact Or.inl rfl | exact Or.inr rfl) (pe_callB  cr_sortE (by rfl) T.n_sorted (by decide +kernel) (pa_cons (pe_lc (own := [("_law_part_here", 15)]) rfl sc_l_renamed_right.nd (pi_list (pv 1)) (blkOk_by (own := [("_law_part_here", 15)]) (N := ["_law_pot_here", "_law_some", "_law_tags", "_law_own", "_law_goals", "_law_keys", "_law_known", "_law_made", "_law_key", "_law_due", "_law_kept", "_law_told", "_law_back", "_law_turn", "_law_bad_here", "_law_part_here", "_law_tag", "_law_one"]) (sc := defScope s_l_renamed_right) (by decide +kernel)) (fun _ _ _ _ _ => (pg_name (i := 15) sc_l_renamed_right.nd rfl (by first | exact Or.inl rfl | exact Or.inr rfl))) (fun _ _ _ _ _ => pts_nil) (fun _ _ _ _ _ => (pe_tup (pa_cons (pe_ix  (ix_tupK (C := K) rfl) (pv 15) pe_int (fun _ _ => rfl)) (pa_cons (pe_ix  (ix_tupK (C := K) rfl) (pv 15) pe_int (fun _ _ => rfl)) (pa_cons (pe_dget (hu_of hr) (pv 6) (pe_ix (ix_tupK (C := K) rfl) (pv 15) pe_int (fun _ _ => rfl)) (fun _ _ => rfl)) pa_nil)))))) pa_nil)))
      (pss_cons (ps_set (i := 10) sc_l_renamed_right.nd rfl (by first | exact Or.inl rfl | exact Or.inr rfl) (pe_callTy  call_dictD (by rfl) T.n_dict (by decide +kernel) (pa_cons (pv 6) pa_nil)))
      (pss_cons (ps_set (i := 11) sc_l_renamed_right.nd rfl (by first | exact Or.inl rfl | exact Or.inr rfl) (pe_lst (pa_cons (Rx.pe_methX Rx.takesNo (pv 7) T.cls T.m_renamed (d_rnm T).fp (hr.mono (by first | decide | omega)) hgd (pa_cons (pv 6) pa_nil)) (pa_cons (Rx.pe_methXK Rx.takesNo (pv 7) T.cls T.m_renamed G_rnm K_rnm (hr.mono (by first | decide | omega)) hgd (pk_cons (pv 6) pk_nil)) pa_nil))))
      (pss_cons (ps_if (PW.pt (pw_or (pt_val (pe_callB (cr_any rfl) (by rfl) T.n_any (by decide +kernel) (pa_cons (pe_lc (own := [("_law_one", 17)]) rfl sc_l_renamed_right.nd (pi_list (pv 11)) (blkOk_by (own := [("_law_one", 17)]) (N := ["_law_pot_here", "_law_some", "_law_tags", "_law_own", "_law_goals", "_law_keys", "_law_known", "_law_made", "_law_key", "_law_due", "_law_kept", "_law_told", "_law_back", "_law_turn", "_law_bad_here", "_law_part_here", "_law_tag", "_law_one"]) (sc := defScope s_l_renamed_right) (by decide +kernel)) (fun _ _ _ _ _ => (pg_name (i := 17) sc_l_renamed_right.nd rfl (by first | exact Or.inl rfl | exact Or.inr rfl))) (fun _ _ _ _ _ => pts_nil) (fun _ _ _ _ _ => (pe_cmpR (op_neDK (C := K) rfl (un64 hr)) (pe_methP0 (pv 17) T.cls T.m_entries (d_entries T).fp (hr.mono (by first | decide | omega)) hgd) (pv 9) (nomark _)))) pa_nil))) (pw_or (pt_cmpR (op_ne_dictA (Nat.lt_of_le_of_lt (Nat.le_add_right _ 64) (un64 hr))) (pv 6) (pv 10) (nomark _)) (pw_or1 (pt_cmpR (op_neD (un64 hr)) (pe_methP0 (pv 7) T.cls T.m_entries (d_entries T).fp (hr.mono (by first | decide | omega)) hgd) (pv 1) (nomark _)))))) (pss_one (ps_ret pe_bl)) pss_nil)
      (pss_cons (ps_set (i := 12) sc_l_renamed_right.nd rfl (by first | exact Or.inl rfl | exact Or.inr rfl) (pe_callTy (call_dictP rfl) (by rfl) T.n_dict (by decide +kernel) (pa_cons (pe_lock (pe_lc (own := [("_law_key", 8)]) rfl sc_l_renamed_right.nd (pi_keys (pv 6)) (blkOk_by (own := [("_law_key", 8)]) (N := ["_law_pot_here", "_law_some", "_law_tags", "_law_own", "_law_goals", "_law_keys", "_law_known", "_law_made", "_law_key", "_law_due", "_law_kept", "_law_told", "_law_back", "_law_turn", "_law_bad_here", "_law_part_here", "_law_tag", "_law_one"]) (sc := defScope s_l_renamed_right) (by decide +kernel)) (fun _ _ _ _ _ => (pg_name (i := 8) sc_l_renamed_right.nd rfl (by first | exact Or.inl rfl | exact Or.inr rfl))) (fun _ _ _ _ _ => pts_nil) (fun _ _ _ _ _ => (pe_tup (pa_cons (pe_dget (hu_of hr) (pv 6) (pv 8) (fun _ _ => rfl)) (pa_cons (pv 8) pa_nil)))))) pa_nil)))
      (pss_cons (ps_if (PW.pt (pw_or (pt_cmpR (op_neP T.f___eq__ T.i___eq__ T.ne T.mo (d_eq T).fp (hr.mono (by decide)) hgd) (Rx.pe_methX Rx.takesNo (pe_ix ix_list (pv 11) pe_int (fun _ _ => rfl)) T.cls T.m_renamed (d_rnm T).fp (hr.mono (by first | decide | omega)) hgd (pa_cons (pv 12) pa_nil)) (pv 7) (nomark _)) (pw_or1 (pt_not (pt_val (pe_own D_l_pair_right (hr.mono (by first | decide | omega)) hgd (pa_cons (pv 1) (pa_cons (pv 9) pa_nil)))))))) (pss_one (ps_ret pe_bl)) pss_nil)
      (pss_cons (ps_for PassesOwn.never rfl (pi_range1 (by rfl) T.n_range (pa_cons pe_int pa_nil)) (pg_name (i := 13) sc_l_renamed_right.nd rfl (by first | exact Or.inl rfl | exact Or.inr rfl)) (pss_cons (ps_set (i := 14) sc_l_renamed_right.nd rfl (by first | exact Or.inl rfl | exact Or.inr rfl) (pe_own D_l_bad (hr.mono (by first | decide | omega)) hgd (pa_cons (pv 0) (pa_cons (pe_callTy (call_dictP rfl) (by rfl) T.n_dict (by decide +kernel) (pa_cons (pe_lc (own := [("_law_tag", 16)]) rfl sc_l_renamed_right.nd (pi_list (pv 3)) (blkOk_by (own := [("_law_tag", 16)]) (N := ["_law_pot_here", "_law_some", "_law_tags", "_law_own", "_law_goals", "_law_keys", "_law_known", "_law_made", "_law_key", "_law_due", "_law_kept", "_law_told", "_law_back", "_law_turn", "_law_bad_here", "_law_part_here", "_law_tag", "_law_one"]) (sc := defScope s_l_renamed_right) (by decide +kernel)) (fun _ _ _ _ _ => (pg_name (i := 16) sc_l_renamed_right.nd rfl (by first | exact Or.inl rfl | exact Or.inr rfl))) (fun _ _ _ _ _ => pts_nil) (fun _ _ _ _ _ => (pe_tup (pa_cons (pv 16) (pa_cons (pe_dget (hu_of hr) (pv 6) (pv 16) (fun _ _ => rfl)) pa_nil))))) pa_nil)) (pa_cons (pv 4) pa_nil)))))
      (pss_one (ps_if (pt_cmpR (op_neF (un64 hr)) (pe_heard (k := 10) T hgd TB rfl hmT hu (hr.mono (by first | decide | omega)) (LamX.lamS_by (sc := defScope s_l_renamed_right) (by decide +kernel)) rfl (fun _ _ _ _ _ => rfl) (fun A2 outer2 s2 H2 E2 f2 c2 hr2 hg2 => (Rx.pe_methX Rx.takesL (pv 7) T.cls T.m_renamed (d_rnm T).fp (hr2.mono (by first | decide | omega)) hg2 (pa_cons (pv 14) pa_nil)))) (pe_lst (pa_cons pe_str (pa_cons (pv 14) (pa_cons pe_bl (pa_cons pe_bl pa_nil))))) (nomark _)) (pss_one (ps_ret pe_bl)) pss_nil))))
      (pss_one (ps_ret (pe_cmpR (op_eqD (un64 hr)) (pe_methP0 (pv 7) T.cls T.m_entries (d_entries T).fp (hr.mono (by first | decide | omega)) hgd) (pv 1) (nomark _))))))))))))))), ?_⟩
    have lz := el.len
    have l0 := due.ok.l0
    have l1 := due.ok.l1
    refine ⟨_, rfl, a, rfl, ⟨_, SqL.of ha⟩, fun D nD => ?_⟩
    refine lc_pure (walk_list (xs := zs)) nD (by omega) (fun _ sm => SqL.of (sm _ _ ha)) (fun i y => ∃ e, es[i]? = some e ∧ y = .str e.2.2) (fun i x H4 H5 Kn Z hi sm y q => ?_) (fun H1 us sm hD hl hr' => ?_)
    · obtain ⟨rfl, hx⟩ := y
      obtain ⟨e, he, u, rfl, hu'⟩ := el.at hx
      exact ⟨rfl, _, rfl, u, _, 2, _, rfl, rfl, SqT.of (sm _ _ hu'), rfl, q _ _ (Same.refl _) ⟨e, he, rfl⟩⟩
    rw [lz] at hl
    obtain rfl := map_of (f := fun e : Ent => V.str e.2.2) hl hr'
    refine ⟨D, es.map (·.2.2), rfl, SqL.of (by rw [List.map_map]; exact hD), by rw [List.length_map]; omega, fun st L nst hL lL => ?_⟩
    refine ⟨st, L, rfl, upd_same, by rw [lL, List.length_map]; omega, fun ow qo sow ndo mow low nq => ?_⟩
    obtain ⟨H2, z2, sA, hq1⟩ := laid (o := .lst (ow.map V.str)) nq
    rw [z2]
    have s1 : L2.Same H H2 := (sm.trans (Same.new nst)).trans sA
    have mow' : ∀ x, x ∈ ow ↔ x ∈ es.map (·.2.2) := fun x => (mow x).trans (hL x)
    have low6 : ow.length ≤ 6 := by rw [lL, List.length_map] at low; omega
    have wdo : ∀ x ∈ ow, Wd x := fun x hx => by
      obtain ⟨e, he, rfl⟩ := List.mem_map.mp ((mow' x).mp hx)
      exact due.wd e he
    clear sA z2 nst nq hL lL mow low
    refine ⟨_, rfl, p, 16, rfl, s1 _ _ hp, by decide, fun gl gs H3 s3 ngl hgl gok lgs => ?_⟩
    have t3 := s1.trans s3
    refine ⟨by show (2 : Nat) ≤ sizeLine; decide +kernel, fun tp ntp => ?_⟩
    refine ⟨tp, _, rfl, SqT.of upd_same, rfl, _, _, rfl, _, _, rfl, rfl, ?_⟩
    have t4 := t3.trans (Same.new (o := .tup [V.ref qo, V.ref gl]) ntp)
    have hq4 := (Same.new (o := .tup [V.ref qo, V.ref gl]) ntp) _ _ (s3 _ _ hq1)
    have hgl4 := (Same.new (o := .tup [V.ref qo, V.ref gl]) ntp) _ _ hgl
    have gln : H gl = none := s1.free ngl
    have qogl : qo ≠ gl := fun e => by rw [e] at hq1; rw [hq1] at ngl; cases ngl
    generalize upd H3 tp (.tup [V.ref qo, V.ref gl]) = H4 at t4 hq4 hgl4
    clear s1 s3 t3 hgl ntp ngl hq1
    have hg4 := t4 _ _ hg
    refine ⟨_, rfl, ?_⟩
    refine ⟨_, rfl, g, rfl, ⟨_, SqL.of hg4⟩, fun D2 nD2 => ?_⟩
    refine lc_fil (walk_list (xs := ns.map V.str)) nD2 (by rw [List.length_map]; omega) (fun _ sm => SqL.of (sm _ _ hg4)) (fun i => ns[i]?.bind fun z => if id z ∈ ow then none else some z) (fun _ v (z : Str) => v = V.str z)
      (fun H H' v c s h => h) (fun H xs ys v c hD h => h) (fun i x H4 H5 Kn Z hi sm _ y q n => ?_) (fun H5 zs5 sm5 hD5 hp5 => ?_)
    · obtain ⟨rfl, hx⟩ := y
      rw [List.getElem?_map] at hx
      obtain ⟨z, hz, rfl⟩ := Option.map_eq_some_iff.mp hx
      rw [hz, Option.bind_some] at q n
      have wz := nok.ok z (List.mem_of_getElem? hz)
      refine ⟨rfl, _, rfl, _, rfl, .str z, ow.map PyData.str, .str z, .lst (SqL.of (sm _ _ hq4)) (ss_dp ow), str_sh wz.ok, ss_sh wdo, _, rfl, ?_⟩
      rw [any_eqv]
      by_cases c : z ∈ ow
      · rw [decide_eq_true c]
        exact iteF (n (by rw [if_pos (show id z ∈ _ from c)]) _ (Same.refl _))
      · rw [decide_eq_false c]
        exact iteT ⟨_, rfl, q _ z _ (by rw [if_neg (show ¬ id z ∈ _ from c)]) (Same.refl _) rfl⟩
    rw [List.length_map, range_fil] at hp5
    obtain ⟨fre, efre⟩ : ∃ fre, ns.filterMap (fun z => if id z ∈ ow then none else some z) = fre := ⟨_, rfl⟩
    rw [efre] at hp5
    obtain rfl := strs_pd hp5
    have t5 := t4.trans sm5
    have hq5 := sm5 _ _ hq4
    have hgl5 := sm5 _ _ hgl4
    refine ⟨_, rfl, p, 3, rfl, t5 _ _ hp, by decide, by decide, fun dn H6 d0 d1 s6 => ?_⟩
    obtain ⟨n, rfl⟩ : ∃ n : Nat, dn = n := ⟨dn.toNat, by omega⟩
    refine ⟨n, rfl, D2, _, rfl, SqL.of (s6 _ _ hD5), fun pc npc => ?_⟩
    rw [cut_any, ← List.map_take]
    obtain ⟨H7, z7, s7, hpc⟩ := laid (o := .lst ((fre.take n).map V.str)) npc
    rw [z7]
    refine ⟨qo, pc, ow.map V.str, (fre.take n).map V.str, rfl, rfl, s7 _ _ (s6 _ _ hq5), hpc, ?_, fun ky nky => ?_⟩
    · rw [List.length_map, List.length_map, List.length_take]
      exact Nat.le_trans (m := 100) (by omega) (by decide +kernel)
    rw [← List.map_append]
    have kygl : ky ≠ gl := fun e => by rw [e, s7 _ _ (s6 _ _ hgl5)] at nky; cases nky
    obtain ⟨H8, z8, s8, hky⟩ := laid (o := .lst ((ow ++ fre.take n).map V.str)) nky
    rw [z8]
    have t8 := t5.trans (s6.trans (s7.trans s8))
    have hgl8 := s8 _ _ (s7 _ _ (s6 _ _ hgl5))
    have hq8 := s8 _ _ (s7 _ _ (s6 _ _ hq5))
    have frm : ∀ z ∈ fre, z ∈ ns ∧ z ∉ ow := fun z hz => by
      rw [← efre] at hz
      obtain ⟨y, hy, e⟩ := List.mem_filterMap.mp hz
      by_cases c : y ∈ ow
      · rw [if_pos (show id y ∈ _ from c)] at e; cases e
      · rw [if_neg (show ¬ id y ∈ _ from c)] at e
        cases e
        exact ⟨hy, c⟩
    have frn : fre.Nodup := by
      rw [← efre]
      exact fil_nodup nok.nd
    have kyn : (ow ++ fre.take n).Nodup := by
      rw [List.nodup_append]
      exact ⟨ndo, (List.take_sublist n fre).nodup frn, fun x hx y hy e => (frm y (List.mem_of_mem_take hy)).2 (e ▸ hx)⟩
    have kyw : ∀ z ∈ ow ++ fre.take n, Wd z := fun z hz => by
      rcases List.mem_append.mp hz with hz | hz
      · exact wdo z hz
      · exact nok.ok z (frm z (List.mem_of_mem_take hz)).1
    have kyl : (ow ++ fre.take n).length ≤ 8 := by
      rw [List.length_append, List.length_take]
      omega
    have kyo : ∀ z ∈ ow, z ∈ ow ++ fre.take n := fun z hz => List.mem_append_left _ hz
    obtain ⟨ks, eks⟩ : ∃ ks, ow ++ fre.take n = ks := ⟨_, rfl⟩
    rw [eks] at hky kyn kyw kyl kyo
    clear eks frn frm efre hq5 hgl5 t5 sm5 hD5 s6 s7 s8 z7 z8 nky npc hpc hp5 t4 hq4 hgl4
    refine fun dk ndk => ?_
    obtain ⟨H9, z9, s9, hdk⟩ := laid (o := .dK []) ndk
    rw [z9]
    have t9 := t8.trans s9
    refine ⟨rfl, _, rfl, a, zs, es, rfl, .inl (t9 _ _ ha), el.same t9, due.ok, fun gs m1 m2 kn => (kn_due due kn).2, fun x gs' m1 m2 H10 s10 nx kd kn => ?_⟩
    obtain ⟨rfl, _⟩ := kn_due due kn
    refine ⟨by show (2 : Nat) ≤ sizeLine; decide +kernel, fun tp2 ntp2 => ?_⟩
    obtain ⟨H11, z11, s11, htp2⟩ := laid (o := .tup [V.ref dk, V.ref x]) ntp2
    rw [z11]
    refine ⟨tp2, _, rfl, SqT.of htp2, rfl, _, _, rfl, _, _, rfl, rfl, ?_⟩
    have t11 := t9.trans (s10.trans s11)
    have dkn : H dk = none := t8.free ndk
    have s911 := s9.trans (s10.trans s11)
    have hky11 := s911 _ _ hky
    have hq11 := s911 _ _ hq8
    have hgl11 := s911 _ _ hgl8
    have hdk11 := (s10.trans s11) _ _ hdk
    have kd11 := kd.same s11
    have dkgl : dk ≠ gl := fun e => by rw [e, hgl8] at ndk; cases ndk
    have dkky : dk ≠ ky := fun e => by rw [e, hky] at ndk; cases ndk
    have dkqo : dk ≠ qo := fun e => by rw [e, hq8] at ndk; cases ndk
    clear z9 z11 ndk ntp2 htp2 nx t9 s10 s11 hky hq8 hgl8 hdk kd kn s911
    refine ⟨_, rfl, ky, rfl, ⟨_, SqL.of hky11⟩, ?_⟩
    refine for_it (walk_list (xs := ks.map V.str)) (fun i σ H' => ∃ s8 : Option V, σ = [some (.ref p), some (.ref a), some (.ref g), some (.ref qo), some (.ref gl), some (.ref ky), some (.ref dk), some (.ref x), s8, none, none, none, none, none, none, none, none, none] ∧ L2.Same H H' ∧ H' ky = some (.lst (ks.map V.str)) ∧ H' qo = some (.lst (ow.map V.str)) ∧ KindAt K H' x gs' m1 m2 ∧
      ∃ (ms : List (Str × Str)) (rest : List Str), H' dk = some (.dK (nmK ms)) ∧ ms.map (·.1) = ks.take i ∧ H' gl = some (.lst (rest.map V.str)) ∧ (ms.map (·.2) ++ rest).Perm gs)
      ⟨_, rfl, t11, hky11, hq11, kd11, [], gs, hdk11, rfl, hgl11, List.Perm.refl _⟩ (fun i σ H' _ ⟨_, _, _, h, _⟩ => SqL.of h) (fun i y σ J J2 hi hP yy => ?_) (fun σ J hP => ?_)
    · obtain ⟨s8, rfl, sJ, hkyJ, hqJ, kdJ, ms, rest, hdkJ, em, hglJ, pm⟩ := hP
      obtain ⟨rfl, hx⟩ := yy
      rw [List.getElem?_map] at hx
      obtain ⟨z, hz, rfl⟩ := Option.map_eq_some_iff.mp hx
      have hi8 : i < ks.length := by rw [List.length_map] at hi; exact hi
      have lms : ms.length = i := by
        have := congrArg List.length em
        rw [List.length_map, List.length_take] at this
        omega
      have lr := pm.length_eq
      rw [List.length_append, List.length_map, lms, lgs] at lr
      refine ⟨_, rfl, .inl ⟨rfl, _, SqL.of hglJ⟩, ?_⟩
      refine ⟨_, rfl, _, rfl, gl, rest.map V.str, rfl, .inl (SqL.of hglJ), p, (rest.map V.str).length, rfl, sJ _ _ hp, by rw [List.length_map]; omega, Int.lt_of_le_of_lt (b := 64) (by rw [List.length_map]; omega) (by decide), fun d' J3 e0 e1 s3 => ?_⟩
      have hk : d'.toNat < rest.length := by rw [List.length_map] at e1; omega
      refine ⟨gl, rest.map V.str, d', d'.toNat, .str rest[d'.toNat], rfl, rfl, s3 _ _ hglJ, by omega, by rw [List.length_map] at e1; omega, sIx_of e0 e1, by rw [List.getElem?_map, List.getElem?_eq_getElem hk]; rfl, ?_⟩
      have hdk3 : (upd J3 gl (.lst ((rest.map V.str).eraseIdx d'.toNat))) dk = some (.dK (nmK ms)) := (upd_ne dkgl).trans (s3 _ _ hdkJ)
      have tk : ks.take (i + 1) = ks.take i ++ [z] := by rw [List.take_add_one, hz]; rfl
      have em2 : (ms ++ [(z, rest[d'.toNat])]).map (·.1) = ks.take (i + 1) := by rw [List.map_append, em, tk]; rfl
      have pk : putK (nmK ms) (.inr z) (.str rest[d'.toNat]) = nmK (ms ++ [(z, rest[d'.toNat])]) := by
        have e : nmK (ms ++ [(z, rest[d'.toNat])]) = nmK ms ++ [(.inr z, .str rest[d'.toNat])] := by unfold nmK; rw [List.map_append]; rfl
        rw [e]
        refine putK_new ?_
        rw [← e]
        have e3 : (nmK (ms ++ [(z, rest[d'.toNat])])).map (·.1) = ((ms ++ [(z, rest[d'.toNat])]).map (·.1)).map Sum.inr := by
          unfold nmK
          rw [List.map_map, List.map_map]
          rfl
        rw [e3, em2]
        exact nodup_map (fun a b h => Sum.inr.inj h) ((List.take_sublist _ _).nodup kyn)
      refine ⟨_, rfl, _, rfl, dk, _, rfl, .inl ⟨nmK ms, .inr z, hdk3, rfl, by unfold nmK; rw [List.length_map, lms]; exact Nat.lt_of_lt_of_le (m := 100) (by omega) (by decide +kernel), rfl⟩, ?_⟩
      rw [pk]
      refine ⟨_, rfl, Same.mut (Same.mut (sJ.trans s3) gln) dkn, (upd_ne dkky.symm).trans ((upd_ne kygl).trans (s3 _ _ hkyJ)), (upd_ne dkqo.symm).trans ((upd_ne qogl).trans (s3 _ _ hqJ)), ((kdJ.same s3).keep (Kp.lst (s3 _ _ hglJ))).keep (Kp.dk hdk3), ms ++ [(z, rest[d'.toNat])], rest.eraseIdx d'.toNat, upd_same, em2, (upd_ne dkgl.symm).trans (upd_same.trans (by rw [erase_map])), ?_⟩
      rw [List.map_append, List.append_assoc]
      refine (List.Perm.append_left _ ?_).trans pm
      exact erase_perm hk
    · obtain ⟨s8, rfl, sJ, hkyJ, hqJ, kdJ, ms, rest, hdkJ, em, hglJ, pm⟩ := hP
      have lms : ms.length = ks.length := by
        have := congrArg List.length em
        rw [List.length_map, List.length_take, List.length_map] at this
        omega
      rw [List.length_map, List.take_of_length_le (Nat.le_refl _)] at em
      have lr := pm.length_eq
      rw [List.length_append, List.length_map, lms, lgs] at lr
      have gnd : (ms.map (·.2) ++ rest).Nodup := pm.nodup_iff.mpr gok.nd
      have gwd : ∀ z ∈ ms.map (·.2) ++ rest, Wd z := fun z hz => gok.ok z (pm.mem_iff.mp hz)
      have mok : MsOk ms := ⟨fun q hq => ⟨kyw _ (by rw [← em]; exact List.mem_map.mpr ⟨q, hq, rfl⟩), gwd _ (List.mem_append_left _ (List.mem_map.mpr ⟨q, hq, rfl⟩))⟩, by rw [em]; exact kyn, (List.nodup_append.mp gnd).1, by omega⟩
      have rok : NsOk rest := ⟨(List.nodup_append.mp gnd).2.1, fun z hz => gwd z (List.mem_append_right _ hz)⟩
      have hin : ∀ e ∈ gs', (look ms e.2.2).isSome = true := fun e he => by
        rw [look_iff, decide_eq_true_iff, em]
        exact kyo _ ((mow' _).mpr (List.mem_map.mpr ⟨e, he, rfl⟩))
      have lr8 : 8 ≤ rest.length := by omega
      have lr16 : rest.length ≤ 16 := by omega
      clear gnd gwd pm em lr lgs gok kyn kyw hkyJ hky11 hq11 kd11 hdk11 hgl11
      refine ⟨_, rfl, a, rfl, ⟨_, SqL.of (sJ _ _ ha)⟩, fun D2 nD2 => ?_⟩
      have lz2 := el.len
      refine lc_depI (walk_list (xs := zs)) nD2 (by omega) (fun _ sm => SqL.of (sm _ _ (sJ _ _ ha))) (fun i H v => ∃ e, gs'[i]? = some e ∧ EntT H v (ren ms e)) (fun i H H' v s ⟨e, he, h⟩ => ⟨e, he, h.same s⟩) (fun i H xs ys v hD ⟨e, he, h⟩ => ⟨e, he, h.mut hD⟩) (fun i x H5 H6 Kn2 Z hi sm _ y q => ?_) (fun H5 ys sm hD hl2 hr3 => ?_)
      · obtain ⟨rfl, hx⟩ := y
        obtain ⟨e, he, u, rfl, hu'⟩ := el.at hx
        have hu2 := sm _ _ (sJ _ _ hu')
        obtain ⟨v, h1, h2⟩ := ren_some hin (List.mem_of_getElem? he)
        have hg2 : DGet H6 dk (V.str e.2.2) (some (.str v)) := by
          have g := DGet.k (k := Sum.inr e.2.2) (sm _ _ hdkJ)
          rw [valV_nm, h1] at g
          exact g
        refine ⟨rfl, _, rfl, u, _, 0, _, rfl, rfl, SqT.of hu2, rfl, _, rfl, u, _, 1, _, rfl, rfl, SqT.of hu2, rfl, _, rfl, _, rfl, u, _, 2, _, rfl, rfl, SqT.of hu2, rfl, dk, _, rfl, hg2, by show (3 : Nat) ≤ sizeLine; decide +kernel, fun p np => q _ _ (Same.new np) ⟨e, he, p, rfl, ?_⟩⟩
        rw [h2]
        exact upd_same
      have el2 : EL H5 ys (gs'.map (ren ms)) := el_of (hl2.trans lz2) hr3
      refine ⟨D2, ys, _, rfl, SqL.of hD, el2, fun du fs dup elf sdf pmf ndu => ?_⟩
      have due2 := ren_due mok due hin pmf sdf
      obtain ⟨J1, zz1, sj1, hdu⟩ := laid (o := .lst du) ndu
      rw [zz1]
      have u1 := sm.trans sj1
      refine ⟨_, rfl, dk, nmK ms, rfl, .inl (u1 _ _ hdkJ), fun kp nkp => ?_⟩
      obtain ⟨J2, zz2, sj2, hkp⟩ := laid (o := .dK (nmK ms)) nkp
      rw [zz2]
      have u2 := u1.trans sj2
      have elf2 : EL J2 du fs := (elf.same sj1).same sj2
      have hdu2 := sj2 _ _ hdu
      have kd2 := kdJ.same u2
      have hdk2 := u2 _ _ hdkJ
      obtain ⟨dx, tx, rx, hx⟩ := ins_of kd2
      have knp : ∀ hs n1 n2, Kn (gs'.map (ren ms)) hs n1 n2 → hs = fs ∧ n1 ≤ 3 ∧ n2 ≤ 3 := fun hs n1 n2 k => kn_perm due2 pmf k
      clear zz1 zz2 ndu nkp hl2 hr3 hD el2 elf
      refine ⟨_, rfl, x, dx, _, rfl, hx, rfl, _, rfl, x, .ref dk, gs', _, _, rfl, kd2, due, .inr ⟨dk, ms, rfl, hdk2, mok, hin, ren_ok mok due hin, fun hs n1 n2 k => (knp hs n1 n2 k).2, fun y1 hs n1 n2 J3 sj3 ny1 ky1 kn1 => ?_⟩⟩
      obtain ⟨rfl, _⟩ := knp _ _ _ kn1
      refine ⟨_, rfl, x, dx, _, rfl, sj3 _ _ hx, rfl, _, rfl, x, .ref dk, gs', _, _, rfl, kd2.same sj3, due, .inr ⟨dk, ms, rfl, sj3 _ _ hdk2, mok, hin, ren_ok mok due hin, fun hs n1 n2 k => (knp hs n1 n2 k).2, fun y2 hs2 n3 n4 J4 sj4 ny2 ky2 kn2 => ?_⟩⟩
      obtain ⟨rfl, _⟩ := knp _ _ _ kn2
      refine ⟨by show (2 : Nat) ≤ sizeLine; decide +kernel, fun tl ntl => ?_⟩
      obtain ⟨J5, zz5, sj5, htl⟩ := laid (o := .lst [V.ref y1, V.ref y2]) ntl
      rw [zz5]
      have s25 := sj3.trans (sj4.trans sj5)
      have u5 := sJ.trans (u2.trans s25)
      have kyA := ky1.same (sj4.trans sj5)
      have kyB := ky2.same sj5
      have kd5 := kd2.same s25
      have hx5 := s25 _ _ hx
      have hdu5 := s25 _ _ hdu2
      have elf5 := elf2.same s25
      have hqA := s25 _ _ (u2 _ _ hqJ)
      have hglA := s25 _ _ (u2 _ _ hglJ)
      have hkp5 := s25 _ _ hkp
      have hdk5 := s25 _ _ hdk2
      obtain ⟨da, ta, ra, hya⟩ := ins_of kyA
      obtain ⟨db, tb', rb, hyb⟩ := ins_of kyB
      have shF : SeqAt.shaped (.list (hs2.map eD)) = true := eDs_shL due2.nm
      have shE : SeqAt.shaped (.list (gs'.map eD)) = true := eDs_shL due.nm
      clear zz5 ntl ky1 ky2 kd2 hdk2 hkp hdu2 elf2 s25 sj3 sj4 sj5 kn1 kn2 ny1 ny2
      refine ⟨_, rfl, tl, rfl, ⟨_, SqL.of htl⟩, fun D3 nD3 => ?_⟩
      refine lc_pure (walk_list (xs := [V.ref y1, V.ref y2])) nD3 (by show (2 : Nat) < 100000; decide) (fun _ sm => SqL.of (sm _ _ htl)) (fun i y => y = V.bl false) (fun i z H6 H7 Kn2 Z hi sm y q => ?_) (fun H6 us sm6 hD3 hl3 hr4 => ?_)
      · obtain ⟨rfl, hz⟩ := y
        obtain ⟨yy, dy, fy, n5, n6, rfl, hy, kyy⟩ : ∃ yy dy fy n5 n6, z = .ref yy ∧ H7 yy = some (.ins (kc K) dy fy) ∧ KindAt K H7 yy hs2 n5 n6 ∧ fy.lookup ("entries" : Str) = none := by
          match i, hi, hz with
          | 0, _, hz => cases hz; exact ⟨_, _, _, _, _, rfl, sm _ _ hya, kyA.same sm, rfl⟩
          | 1, _, hz => cases hz; exact ⟨_, _, _, _, _, rfl, sm _ _ hyb, kyB.same sm, rfl⟩
          | n + 2, hi, _ => exact absurd hi (Nat.not_lt.mpr (Nat.le_add_left 2 n))
        obtain ⟨kyy, lk⟩ := kyy
        refine ⟨rfl, _, rfl, yy, dy, fy, rfl, hy, lk, yy, hs2, n5, n6, rfl, kyy, fun r wr H8 s8 nr hr8 er => ?_⟩
        refine ⟨_, rfl, .list (hs2.map eD), .list (hs2.map eD), .lst (SqL.of hr8) er.dp, .lst (SqL.of ((sm.trans s8) _ _ hdu5)) (elf5.same (sm.trans s8)).dp, shF, shF, ?_⟩
        rw [eqvL, decide_eq_true rfl]
        exact q _ _ s8 rfl
      obtain rfl := List.eq_replicate_iff.mpr ⟨hl3, fun b hb => by
        obtain ⟨i, hi⟩ := List.mem_iff_getElem?.mp hb
        exact hr4 i b hi⟩
      refine ⟨D3, [false, false], rfl, SqL.of hD3, false, rfl, iteF ?_⟩
      have kd6 := kd5.same sm6
      have hx6 := sm6 _ _ hx5
      have u6 := u5.trans sm6
      refine ⟨_, rfl, _, rfl, dk, kp, nmK ms, nmK ms, rfl, rfl, sm6 _ _ hdk5, sm6 _ _ hkp5, rfl, fun pq hpq => ?_, false, rfl, iteF ?_⟩
      · obtain ⟨q, hq, rfl⟩ := List.mem_map.mp hpq
        exact ⟨by rw [valV_nm, look_mem mok.nd hq]; rfl, rfl⟩
      refine ⟨_, rfl, x, dx, _, rfl, hx6, rfl, x, gs', _, _, rfl, kd6, fun r wr H8 sm8 nr hr8 er => ?_⟩
      have u8 := u6.trans sm8
      refine ⟨_, rfl, .list (gs'.map eD), .list (gs'.map eD), .lst (SqL.of hr8) er.dp, .lst (SqL.of (u8 _ _ ha)) (el.same u8).dp, shE, shE, ?_⟩
      rw [eqvL, decide_eq_true rfl]
      refine ⟨false, rfl, iteF ?_⟩
      have s58 := sm6.trans sm8
      have hdk8 := s58 _ _ hdk5
      have nml : (nmK ms).length = ms.length := by unfold nmK; rw [List.length_map]
      have ml := mok.l
      refine ⟨dk, .dK (nmK ms), hdk8, trivial, fun od1 => ?_⟩
      refine ⟨_, rfl, dk, od1, rfl, .inl ⟨nmK ms, upd_same, fun D4 nD4 => ?_⟩⟩
      refine lc_fil walk_keys nD4 (by rw [nml]; omega) (fun _ sm => sm _ _ upd_same) (fun i => ms[i]?.bind fun q => some ((Sum.inr q.2 : Key), V.str q.1)) (fun H v (kv : Key × V) => ∃ t, v = .ref t ∧ H t = some (.tup [kV kv.1, kv.2]))
        (fun H H' v c s ⟨t, e, h⟩ => ⟨t, e, s _ _ h⟩) (fun H xs ys v c hD ⟨t, e, h⟩ => ⟨t, e, (upd_ne fun z => by rw [z, hD] at h; cases h).trans h⟩) (fun i x H4 H5 Kn Z hi sm _ y q n => ?_) (fun H9 zs9 sm9 hD4 hp9 => ?_)
      · obtain ⟨rfl, kk, vv, hkv, rfl⟩ := y
        have hkv' : (ms[i]?).map (fun p => ((Sum.inr p.1 : Key), V.str p.2)) = some (kk, vv) := by
          unfold nmK at hkv
          rw [List.getElem?_map] at hkv
          exact hkv
        obtain ⟨m, hm, e⟩ := Option.map_eq_some_iff.mp hkv'
        cases e
        have g1 : DGet H5 dk (V.str m.1) (some (.str m.2)) := .inl ⟨nmK ms, Sum.inr m.1, .inr ⟨od1, sm _ _ upd_same⟩, rfl, by rw [valV_nm, look_mem mok.nd (List.mem_of_getElem? hm)]; rfl⟩
        refine ⟨rfl, ?_⟩
        refine ⟨_, rfl, _, rfl, dk, _, rfl, g1, _, rfl, by show (2 : Nat) ≤ sizeLine; decide +kernel, fun t nt => ?_⟩
        exact q _ _ _ (by rw [hm]; rfl) (Same.new nt) ⟨t, rfl, upd_same⟩
      rw [nml, range_fil] at hp9
      rw [show ms.filterMap (fun q => some ((Sum.inr q.2 : Key), V.str q.1)) = nmK (bk ms) by unfold nmK bk; rw [List.map_map, List.filterMap_eq_map']; rfl] at hp9
      obtain ⟨ps9, rfl, hq9⟩ := refs_of hp9
      have fz9 := sm9 _ _ upd_same
      refine ⟨fz9, ?_⟩
      have y9 := lock_same hdk8 sm9
      have nD4d : D4 ≠ dk := fun z => by rw [z, fz9] at hD4; cases hD4
      have hD9 : (upd H9 dk (.dK (nmK ms))) D4 = some (.lst (ps9.map V.ref)) := (upd_ne nD4d).trans hD4
      have hp10 : Paired (fun p kv => SqT K (upd H9 dk (.dK (nmK ms))) p [kV kv.1, kv.2]) ps9 (nmK (bk ms)) := L2.Paired.mapP hq9 fun a b z => SqT.of ((upd_ne fun e => by rw [e, fz9] at z; cases z).trans z)
      generalize upd H9 dk (.dK (nmK ms)) = J6 at y9 hD9 hp10
      clear hq9 hD4 sm9 fz9 nD4d
      have mokb := bk_ok mok
      refine ⟨D4, ps9, nmK (bk ms), rfl, SqL.of hD9, hp10, fun bka nbka => ?_⟩
      rw [merge_fresh (by rw [List.nil_append]; exact nm_nodup mokb), List.nil_append]
      obtain ⟨J7, zz7, sj7, hbk⟩ := laid (o := .dK (nmK (bk ms))) nbka
      rw [zz7]
      have s57 := s58.trans (y9.trans sj7)
      have u7 := u5.trans s57
      have kyA7 := kyA.same s57
      have kd7 := kd5.same s57
      obtain ⟨da7, ta7, ra7, hya7⟩ := ins_of kyA7
      obtain ⟨dx7, tx7, rx7, hx7⟩ := ins_of kd7
      have pmb := bk_perm mok hin pmf
      have knb : ∀ hs n1 n2, Kn (hs2.map (ren (bk ms))) hs n1 n2 → hs = gs' ∧ n1 ≤ 3 ∧ n2 ≤ 3 := fun hs n1 n2 k => kn_perm due pmb k
      clear zz7 nbka hD9 hp10 y9 sj7 nD3 nD4
      refine ⟨_, rfl, tl, _, 0, _, rfl, rfl, SqL.of (s57 _ _ htl), at0, y1, da7, _, rfl, hya7, rfl, _, rfl, y1, .ref bka, hs2, _, _, rfl, kyA7, due2, .inr ⟨bka, bk ms, rfl, hbk, mokb, bk_in mok hin pmf, es_perm pmb.symm due.ok, fun hs n1 n2 k => (knb hs n1 n2 k).2, fun y3 hs3 n7 n8 J8 sj8 ny3 ky3 kn3 => ?_⟩⟩
      have e3 := (knb _ _ _ kn3).1
      rw [e3] at ky3
      obtain ⟨d3, t3, r3, hy3⟩ := ins_of ky3
      have kd8 := kd7.same sj8
      have hx8 := sj8 _ _ hx7
      refine ⟨_, rfl, y3, d3, _, _, rfl, hy3, own_ty T hx8, nf_own, y3, gs', _, _, _, rfl, ky3, due.ok.ok, .inl ⟨x, gs', _, _, rfl, kd8, due.ok.ok, _, rfl, ?_⟩⟩
      rw [decide_eq_true rfl]
      refine ⟨false, rfl, iteF ?_⟩
      have u9 := u7.trans sj8
      have s59 := s57.trans sj8
      refine ⟨_, rfl, _, rfl, a, dup, zs, du, gs', hs2, rfl, u9 _ _ ha, el.same u9, due, s59 _ _ hdu5, elf5.same s59, due2, fun J9 sj9 => ⟨true, rfl, iteF ?_⟩⟩
      have u10 := u9.trans sj9
      have s5a := s59.trans sj9
      have kdA := kd8.same sj9
      have T9 : Tabs t.l J9 := tb.ext u10
      have hp9' := u10 _ _ hp
      have ha9 := u10 _ _ ha
      have el9 := el.same u10
      have hq9' := s5a _ _ hqA
      have hgl9 := s5a _ _ hglA
      have hdk9 := s5a _ _ hdk5
      have odin : ∀ z ∈ ow, (look ms z).isSome = true := fun z hz => by
        obtain ⟨e, he, rfl⟩ := List.mem_map.mp ((mow' z).mp hz)
        exact hin e he
      have odok := od_ok mok ndo low6 odin
      have odne : od ms ow ≠ [] := fun z => by
        have l0' := due.ok.l0
        obtain ⟨e, he⟩ := List.exists_mem_of_length_pos (show 0 < gs'.length by omega)
        have m := (mow' _).mpr (List.mem_map.mpr ⟨e, he, rfl⟩)
        have : ow = [] := by
          cases ow with
          | nil => rfl
          | cons a r => cases z
        rw [this] at m
        cases m
      have odown : ∀ q ∈ od ms ow, ∃ e ∈ gs', e.2.2 = q.1 := fun q hq => by
        obtain ⟨z, hz, rfl⟩ := List.mem_map.mp hq
        obtain ⟨e, he, en⟩ := List.mem_map.mp ((mow' z).mp hz)
        exact ⟨e, he, en⟩
      have odl : (od ms ow).length = ow.length := by unfold od; rw [List.length_map]
      refine ⟨3, rfl, by decide, by decide, ?_⟩
      refine for_it walk_range (fun i σ H' => (∃ s13 s14 : Option V, σ = [some (.ref p), some (.ref a), some (.ref g), some (.ref qo), some (.ref gl), some (.ref ky), some (.ref dk), some (.ref x), s8, some (.ref dup), some (.ref kp), some (.ref tl), some (.ref bka), s13, s14, none, none, none]) ∧ ExtN J9 H' ∧ Tabs t.l H') ⟨⟨_, _, rfl⟩, .of (Same.refl _), T9⟩ (fun _ _ _ _ _ => trivial) (fun i iv σ N1 N2 hi h y => ?_) (fun σ N1 h => ?_)
      · obtain ⟨⟨s13, s14, rfl⟩, e4, T4⟩ := h
        obtain ⟨rfl, rfl⟩ := y
        refine ⟨_, rfl, _, rfl, qo, rfl, ⟨_, SqL.of (e4 _ _ hq9' nt_lst)⟩, fun D nD => ?_⟩
        have hdkE := e4 _ _ hdk9 nt_dk
        refine lc_fil (walk_list (xs := ow.map V.str)) nD (by rw [List.length_map]; omega) (fun _ sm => SqL.of (sm _ _ (e4 _ _ hq9' nt_lst))) (fun i => ow[i]?.bind fun z => some ((Sum.inr z : Key), V.str ((look ms z).getD z))) (fun H v (kv : Key × V) => ∃ t, v = .ref t ∧ H t = some (.tup [kV kv.1, kv.2]))
          (fun H H' v c s ⟨t, e, h⟩ => ⟨t, e, s _ _ h⟩) (fun H xs ys v c hD ⟨t, e, h⟩ => ⟨t, e, (upd_ne fun z => by rw [z, hD] at h; cases h).trans h⟩) (fun i x H4 H5 Kn Z hi sm _ y q n => ?_) (fun N3 zsN smN hDN hpN => ?_)
        · obtain ⟨rfl, hx⟩ := y
          rw [List.getElem?_map] at hx
          obtain ⟨z, hz, rfl⟩ := Option.map_eq_some_iff.mp hx
          obtain ⟨v, hv⟩ := Option.isSome_iff_exists.mp (odin z (List.mem_of_getElem? hz))
          have g1 : DGet H5 dk (V.str z) (some (.str v)) := .inl ⟨nmK ms, Sum.inr z, .inl (sm _ _ hdkE), rfl, by rw [valV_nm, hv]; rfl⟩
          refine ⟨rfl, ?_⟩
          refine ⟨_, rfl, _, rfl, _, rfl, dk, _, rfl, g1, by show (2 : Nat) ≤ sizeLine; decide +kernel, fun t nt => ?_⟩
          exact q _ _ _ (by rw [hz]; rfl) (Same.new nt) ⟨t, rfl, by rw [hv]; exact upd_same⟩
        rw [List.length_map, range_fil] at hpN
        rw [show ow.filterMap (fun z => some ((Sum.inr z : Key), V.str ((look ms z).getD z))) = nmK (od ms ow) by unfold nmK od; rw [List.map_map, List.filterMap_eq_map']; rfl] at hpN
        obtain ⟨psN, rfl, hqN⟩ := refs_of hpN
        refine ⟨D, psN, nmK (od ms ow), rfl, SqL.of hDN, L2.Paired.mapP hqN fun a b z => SqT.of z, fun dd ndd => ?_⟩
        rw [merge_fresh (by rw [List.nil_append]; exact nm_nodup odok), List.nil_append]
        obtain ⟨N4, zz8, sN4, hdd⟩ := laid (o := .dK (nmK (od ms ow))) ndd
        rw [zz8]
        have e5 := e4.trans (.of (smN.trans sN4))
        refine ⟨_, rfl, p, dd, gl, od ms ow, rest, gs', rfl, e5 _ _ hp9' nt_pot, hdd, odok, odne, odown, e5 _ _ hgl9 nt_lst, rok, by omega, lr16, fun bad N5 sN5 bd => ?_⟩
        have e6 := e5.trans (.of sN5)
        have T5 : Tabs t.l N5 := T4.ext ((smN.trans sN4).trans sN5)
        have kdE := kdA.extN e6
        obtain ⟨dxE, txE, rxE, hxE⟩ := ins_of kdE
        refine lam_use (x := bad) T5 (fun E2 R N6 eN ev => ⟨_, rfl, x, dxE, _, rfl, eN _ _ hxE (fun _ z => by cases z), rfl, _, rfl, x, bad, gs', _, _, rfl, kdE.extN eN, due, .inl ⟨bd.ext eN, ev⟩⟩) (fun l N7 e7 T7 _ hl => ?_)
        refine ⟨_, rfl, by show (4 : Nat) ≤ sizeLine; decide +kernel, fun l2 nl2 => ?_⟩
        have sL := Same.new (o := .lst [.str "renaming", bad, .bl true, .bl true]) nl2
        refine ⟨l, l2, [.str "renaming", bad, .bl true, .bl true], rfl, rfl, SqL.of (sL _ _ hl), SqL.of upd_same, fun z hz => ?_, false, rfl, iteF ?_⟩
        · simp only [List.mem_cons, List.not_mem_nil, or_false] at hz
          rcases hz with rfl | rfl | rfl | rfl
          · exact .inl rfl
          · exact bad_same bd
          · exact .inl rfl
          · exact .inl rfl
        · exact ⟨⟨_, _, rfl⟩, e6.trans (e7.trans (.of sL)), T7.ext sL⟩
      · obtain ⟨⟨s13, s14, rfl⟩, e4, T4⟩ := h
        have kdE := kdA.extN e4
        obtain ⟨dxE, txE, rxE, hxE⟩ := ins_of kdE
        refine ⟨_, rfl, x, dxE, _, rfl, hxE, rfl, x, gs', _, _, rfl, kdE, fun r wr N2 s2 nr hr8 er => ?_⟩
        refine ⟨_, rfl, .list (gs'.map eD), .list (gs'.map eD), .lst (SqL.of hr8) er.dp, .lst (SqL.of (s2 _ _ (e4 _ _ ha9 nt_lst))) ((EL.extN el9 e4).same s2).dp, shE, shE, ?_⟩
        rw [eqvL, decide_eq_true rfl]
        exact k _ ((ExtN.of u10).trans (e4.trans (.of s2))) (T4.ext s2)
end
end K12

set_option Elab.async false
set_option linter.all false
set_option maxRecDepth 100000
set_option maxHeartbeats 4000000
namespace K12
open PySem L2 Lay Own SrtO LamX Od
local macro_rules | `(tactic| walk_at "ne") => `(tactic| first | assumption | (apply Ne.symm; assumption) | exact ne_of_none (by walk_at "look") (by assumption) | exact (ne_of_none (by walk_at "look") (by assumption)).symm)
local macro_rules | `(tactic| walk_at "look") => `(tactic| first | assumption | exact upd_same | (refine Eq.trans (upd_ne ?_) ?_; walk_at "ne"; walk_at "look"))
local macro_rules | `(tactic| walk_at "rds") => `(tactic| first | rfl | assumption | walk_at "look" | exact SqL.of (by walk_at "look") | exact SqT.of (by walk_at "look") | exact Or.inl (SqL.of (by walk_at "look")) | exact Or.inl (by assumption) | decide | omega | exact Nat.le_of_ble_eq_true rfl | exact Or.inr ⟨by decide, by decide⟩ | exact Or.inl ⟨by omega, by omega⟩ | exact ⟨by decide, by decide⟩)
local macro_rules | `(tactic| walk_at "rd1") => `(tactic| first | (apply Exists.intro) | (refine And.intro ?_ ?_; walk_at "rds") | (refine Or.inl ?_; apply Exists.intro; refine And.intro ?_ ?_; rfl))
local macro_rules | `(tactic| walk_at "rd") => `(tactic| repeat walk_at "rd1")
section
variable {P : Program} {w : World} {K : PySem.W.Frag} {mg : Str → Option Value} {base : Heap} {t : Tbs}
def spRig (K : PySem.W.Frag) (t : Tbs) : Sp := fun vs H Q _ => ∃ p, vs = [.ref p] ∧ H p = some (PotO p) ∧ Tabs t.l H ∧ ∀ H', ExtN H H' → Tabs t.l H' → Q (.bl true) H'
/-- two lists of entries -/
def Two (H : Hp) (v : V) : Prop := ∃ u a b xs ys es fs, v = .ref u ∧ H u = some (.tup [.ref a, .ref b]) ∧ H a = some (.lst xs) ∧ EL H xs es ∧ Due es ∧ H b = some (.lst ys) ∧ EL H ys fs ∧ Due fs
theorem Two.same {H H' : Hp} {v : V} (h : Two H v) (s : L2.Same H H') : Two H' v := by
  obtain ⟨u, a, b, xs, ys, es, fs, e, hu, ha, ea, da, hb, eb, db⟩ := h
  exact ⟨u, a, b, xs, ys, es, fs, e, s _ _ hu, s _ _ ha, ea.same s, da, s _ _ hb, eb.same s, db⟩
theorem Two.mut {H : Hp} {z : V} {pr v0 a0 b0 : Addr} {r ys : List V} (hpr : H pr = some (.lst (.ref v0 :: r))) (hv : H v0 = some (.tup [.ref a0, .ref b0])) (h : Two H z) : Two (upd H pr (.lst ys)) z := by
  obtain ⟨u, a, b, xs, ys', es, fs, e, hu, ha, ea, da, hb, eb, db⟩ := h
  have ne : ∀ {a : Addr} {xs : List V} {es : List Ent}, H a = some (.lst xs) → EL H xs es → a ≠ pr := fun {a xs es} ha el q => by
    rw [q, hpr] at ha
    cases ha
    cases el with
    | cons h _ =>
      obtain ⟨u, e, hu⟩ := h
      cases e
      rw [hv] at hu
      cases hu
  exact ⟨u, a, b, xs, ys', es, fs, e, (upd_ne fun q => by rw [q, hpr] at hu; cases hu).trans hu, (upd_ne (ne ha ea)).trans ha, ea.mut hpr, da, (upd_ne (ne hb eb)).trans hb, eb.mut hpr, db⟩
theorem d_right (TT : TxT K mg base t) : Df P w K mg base 14 "_law_right" ["_law_pot_here"] (spRig K t) := by
  have T := TT.T
  have D_l_draw := d_draw (P := P) (w := w) (base := base) T
  have D_l_names := d_lnames (P := P) (w := w) (base := base) T
  have D_l_entries := d_lentries (P := P) (w := w) (base := base) T
  have D_l_part := d_part (P := P) (w := w) (base := base) T
  have D_l_more := d_more (P := P) (w := w) (base := base) T
  have D_l_pair_right := d_pair (P := P) (w := w) (base := base) T
  have D_l_renamed_right := d_rr (P := P) (w := w) (base := base) TT
  obtain ⟨mc, cr, ⟨p0, sta⟩, _⟩ := T.cr
  refine T.S_l_right.by sc_l_right (fun vs H Q E h => ?_) (fun f cdv A outer s H vs Q E hr hgd h => ?_)
  · obtain ⟨p, rfl, _⟩ := h; rfl
  · obtain ⟨p, rfl, hp, tb, k⟩ := h
    refine ⟨_, (pss_cons (ps_set (i := 1) sc_l_right.nd rfl (by first | exact Or.inl rfl | exact Or.inr rfl) (pe_own D_l_names (hr.mono (by first | decide | omega)) hgd (pa_cons (pv 0) (pa_cons (pe_op op_add pe_int (pe_own D_l_draw (hr.mono (by first | decide | omega)) hgd (pa_cons (pv 0) (pa_cons pe_int pa_nil)))) pa_nil))))
      (pss_cons (ps_set (i := 2) sc_l_right.nd rfl (by first | exact Or.inl rfl | exact Or.inr rfl) (pe_own D_l_entries (hr.mono (by first | decide | omega)) hgd (pa_cons (pv 0) (pa_cons (pv 1) pa_nil))))
      (pss_cons (ps_set (i := 3) sc_l_right.nd rfl (by first | exact Or.inl rfl | exact Or.inr rfl) (pe_own D_l_part (hr.mono (by first | decide | omega)) hgd (pa_cons (pv 0) (pa_cons (pv 2) pa_nil))))
      (pss_cons (ps_set (i := 4) sc_l_right.nd rfl (by first | exact Or.inl rfl | exact Or.inr rfl) (pe_lst (pa_cons (pe_tup (pa_cons (pv 2) (pa_cons (pv 2) pa_nil))) (pa_cons (pe_tup (pa_cons (pv 3) (pa_cons (pv 2) pa_nil))) (pa_cons (pe_tup (pa_cons (pe_own D_l_part (hr.mono (by first | decide | omega)) hgd (pa_cons (pv 0) (pa_cons (pv 3) pa_nil))) (pa_cons (pv 2) pa_nil))) (pa_cons (pe_tup (pa_cons (pe_own D_l_entries (hr.mono (by first | decide | omega)) hgd (pa_cons (pv 0) (pa_cons (pv 1) pa_nil))) (pa_cons (pv 2) pa_nil))) pa_nil))))))
      (pss_cons (ps_expr (pe_bm PySem.F.plainAttrs_list PySem.F.slot_list_extend PySem.F.type_list_extend mt_extend (pv 4) (pa_cons (pe_lst (pa_cons (pe_tup (pa_cons (pv 2) (pa_cons (pe_own D_l_more (hr.mono (by first | decide | omega)) hgd (pa_cons (pv 0) (pa_cons (pv 2) (pa_cons (pv 1) pa_nil)))) pa_nil))) (pa_cons (pe_tup (pa_cons (pv 3) (pa_cons (pe_own D_l_more (hr.mono (by first | decide | omega)) hgd (pa_cons (pv 0) (pa_cons (pv 2) (pa_cons (pv 1) pa_nil)))) pa_nil))) pa_nil))) pa_nil)))
      (pss_cons (ps_if (pt_not (pt_val (pe_callB (cr_all rfl) (by rfl) T.n_all (by decide +kernel) (pa_cons (pe_lc (own := [("_law_pair", 5)]) rfl sc_l_right.nd (pi_list (pv 4)) (blkOk_by (own := [("_law_pair", 5)]) (N := ["_law_pot_here", "_law_tags", "_law_some", "_law_part_here", "_law_pairs", "_law_pair"]) (sc := defScope s_l_right) (by decide +kernel)) (fun _ _ _ _ _ => (pg_name (i := 5) sc_l_right.nd rfl (by first | exact Or.inl rfl | exact Or.inr rfl))) (fun _ _ _ _ _ => pts_nil) (fun _ _ _ _ _ => (pe_own D_l_pair_right (hr.mono (by first | decide | omega)) hgd (pa_cons (pe_ix  (ix_tupK (C := K) rfl) (pv 5) pe_int (fun _ _ => rfl)) (pa_cons (pe_ix  (ix_tupK (C := K) rfl) (pv 5) pe_int (fun _ _ => rfl)) pa_nil))))) pa_nil)))) (pss_one (ps_ret pe_bl)) pss_nil)
      (pss_cons (ps_if (pt_not (pt_cmpR (op_leP T.f___le__ T.i___le__ (d_le T).fp (hr.mono (by decide)) hgd) (pe_staP (pe_glob (v := .ref (He.ga K "Kind")) (by rfl) T.g_Kind rfl) cr sta (d_of T).fp (hr.mono (by first | decide | omega)) hgd (pa_cons (pv 3) pa_nil)) (pe_staP (pe_glob (v := .ref (He.ga K "Kind")) (by rfl) T.g_Kind rfl) cr sta (d_of T).fp (hr.mono (by first | decide | omega)) hgd (pa_cons (pv 2) pa_nil)) (nomark _))) (pss_one (ps_ret pe_bl)) pss_nil)
      (pss_one (ps_ret (pe_own D_l_renamed_right (hr.mono (by first | decide | omega)) hgd (pa_cons (pv 0) (pa_cons (pv 2) (pa_cons (pv 1) pa_nil))))))))))))), ?_⟩
    refine ⟨_, rfl, _, rfl, p, 10, rfl, hp, by decide, by decide, fun d H1 d0 d1 s1 => ?_⟩
    obtain ⟨n, rfl⟩ : ∃ n : Nat, d = n := ⟨d.toNat, by omega⟩
    have en : (1 : Int) + (n : Int) = ((1 + n : Nat) : Int) := by omega
    refine ⟨1, (n : Int), rfl, rfl, ?_⟩
    refine ⟨p, 1 + n, (by show [V.ref p, V.int (1 + (n : Int))] = _; rw [en]), s1 _ _ hp, by omega, fun l ns H2 s2 nl hl ok len => ?_⟩
    have t2 := s1.trans s2
    refine ⟨_, rfl, _, rfl, p, l, ns, rfl, t2 _ _ hp, hl, ok, by omega, by omega, fun m zs es H3 s3 nm hm el due => ?_⟩
    have t3 := t2.trans s3
    refine ⟨_, rfl, _, rfl, p, m, zs, es, rfl, t3 _ _ hp, hm, el, due, fun g gz gs H4 q s4 ng hg elg dueg lies => ?_⟩
    have t4 := t3.trans s4
    have hl4 := s4 _ _ (s3 _ _ hl)
    have hm4 := s4 _ _ hm
    have el4 := el.same s4
    clear s1 s2 t2 s3 t3 s4 hl hm el nl nm ng
    refine ⟨_, rfl, _, rfl, by show (2 : Nat) ≤ sizeLine; decide +kernel, fun v1 nv1 => ?_⟩
    obtain ⟨G1, z1, s1, h1⟩ := laid (o := .tup [V.ref m, V.ref m]) nv1
    rw [z1]
    refine ⟨_, rfl, _, rfl, by show (2 : Nat) ≤ sizeLine; decide +kernel, fun v2 nv2 => ?_⟩
    obtain ⟨G2, z2, s2, h2⟩ := laid (o := .tup [V.ref g, V.ref m]) nv2
    rw [z2]
    have s12 := s1.trans s2
    refine ⟨_, rfl, _, rfl, p, g, gz, gs, rfl, (t4.trans s12) _ _ hp, s12 _ _ hg, elg.same s12, dueg, fun g3 gz3 gs3 G3 q3 s3 ng3 hg3 elg3 dueg3 lies3 => ?_⟩
    refine ⟨_, rfl, by show (2 : Nat) ≤ sizeLine; decide +kernel, fun v3 nv3 => ?_⟩
    obtain ⟨G4, z4, s4, h4⟩ := laid (o := .tup [V.ref g3, V.ref m]) nv3
    rw [z4]
    have s14 := s12.trans (s3.trans s4)
    refine ⟨_, rfl, _, rfl, p, l, ns, rfl, (t4.trans s14) _ _ hp, s14 _ _ hl4, ok, by omega, by omega, fun m5 zs5 es5 G5 s5 nm5 hm5 el5 due5 => ?_⟩
    refine ⟨_, rfl, by show (2 : Nat) ≤ sizeLine; decide +kernel, fun v4 nv4 => ?_⟩
    obtain ⟨G6, z6, s6, h6⟩ := laid (o := .tup [V.ref m5, V.ref m]) nv4
    rw [z6]
    refine ⟨by show (4 : Nat) ≤ sizeLine; decide +kernel, fun pr npr => ?_⟩
    obtain ⟨G7, z7, s7, h7⟩ := laid (o := .lst [V.ref v1, V.ref v2, V.ref v3, V.ref v4]) npr
    rw [z7]
    have s17 := s14.trans (s5.trans (s6.trans s7))
    have t7 := t4.trans s17
    have w1 : Two G7 (.ref v1) := ⟨v1, m, m, zs, zs, es, es, rfl, (s2.trans (s3.trans (s4.trans (s5.trans (s6.trans s7))))) _ _ h1, s17 _ _ hm4, el4.same s17, due, s17 _ _ hm4, el4.same s17, due⟩
    have w2 : Two G7 (.ref v2) := ⟨v2, g, m, gz, zs, gs, es, rfl, (s3.trans (s4.trans (s5.trans (s6.trans s7)))) _ _ h2, s17 _ _ hg, elg.same s17, dueg, s17 _ _ hm4, el4.same s17, due⟩
    have s47 := s4.trans (s5.trans (s6.trans s7))
    have w3 : Two G7 (.ref v3) := ⟨v3, g3, m, gz3, zs, gs3, es, rfl, (s5.trans (s6.trans s7)) _ _ h4, s47 _ _ hg3, elg3.same s47, dueg3, s17 _ _ hm4, el4.same s17, due⟩
    have s67 := s6.trans s7
    have w4 : Two G7 (.ref v4) := ⟨v4, m5, m, zs5, zs, es5, es, rfl, s7 _ _ h6, s67 _ _ hm5, el5.same s67, due5, s17 _ _ hm4, el4.same s17, due⟩
    have hp7 := t7 _ _ hp
    have hm7 := s17 _ _ hm4
    have hg7 := s17 _ _ hg
    have hl7 := s17 _ _ hl4
    have el7 := el4.same s17
    have elg7 := elg.same s17
    have hv1 := (s2.trans (s3.trans (s4.trans (s5.trans (s6.trans s7))))) _ _ h1
    have prn : G6 pr = none := npr
    have prH : H pr = none := (t4.trans (s14.trans (s5.trans s6))).free npr
    have mpr : m ≠ pr := fun e => by rw [e] at hm4; rw [(s14.trans (s5.trans s6)) _ _ hm4] at npr; cases npr
    have gpr : g ≠ pr := fun e => by rw [e] at hg; rw [(s14.trans (s5.trans s6)) _ _ hg] at npr; cases npr
    have lpr : l ≠ pr := fun e => by rw [e] at hl4; rw [(s14.trans (s5.trans s6)) _ _ hl4] at npr; cases npr
    clear z1 z2 z4 z6 z7 nv1 nv2 nv3 nv4 s1 s2 s12 s3 s4 s14 s5 s6 s7 s47 s67 h1 h2 h4 h6 hm4 hl4 el4 elg hg
    refine ⟨_, rfl, .inl ⟨rfl, _, SqL.of h7⟩, ?_⟩
    refine ⟨_, rfl, _, rfl, _, rfl, _, rfl, p, m, l, zs, es, ns, rfl, hp7, hm7, el7, due, hl7, ok, by omega, by omega, fun m8 zs8 es8 G8 s8 hm8 el8 due8 => ?_⟩
    refine ⟨by show (2 : Nat) ≤ sizeLine; decide +kernel, fun v5 nv5 => ?_⟩
    obtain ⟨G9, z9, s9, h9⟩ := laid (o := .tup [V.ref m, V.ref m8]) nv5
    rw [z9]
    have s79 := s8.trans s9
    refine ⟨_, rfl, _, rfl, _, rfl, _, rfl, p, m, l, zs, es, ns, rfl, s79 _ _ hp7, s79 _ _ hm7, el7.same s79, due, s79 _ _ hl7, ok, by omega, by omega, fun m10 zs10 es10 G10 s10 hm10 el10 due10 => ?_⟩
    refine ⟨by show (2 : Nat) ≤ sizeLine; decide +kernel, fun v6 nv6 => ?_⟩
    obtain ⟨G11, z11, s11, h11⟩ := laid (o := .tup [V.ref g, V.ref m10]) nv6
    rw [z11]
    refine ⟨by show (2 : Nat) ≤ sizeLine; decide +kernel, fun pq npq => ?_⟩
    obtain ⟨G12, z12, s12, h12⟩ := laid (o := .lst [V.ref v5, V.ref v6]) npq
    rw [z12]
    have s712 := s79.trans (s10.trans (s11.trans s12))
    have s912 := s10.trans (s11.trans s12)
    have s812 := s9.trans s912
    have s1012 := s11.trans s12
    have w5 : Two G12 (.ref v5) := ⟨v5, m, m8, zs, zs8, es, es8, rfl, s912 _ _ h9, s712 _ _ hm7, el7.same s712, due, s812 _ _ hm8, el8.same s812, due8⟩
    have w6 : Two G12 (.ref v6) := ⟨v6, g, m10, gz, zs10, gs, es10, rfl, s12 _ _ h11, s712 _ _ hg7, elg7.same s712, dueg, s1012 _ _ hm10, el10.same s1012, due10⟩
    have h712 := s712 _ _ h7
    have hv12 := s712 _ _ hv1
    refine ⟨pr, pq, _, _, rfl, rfl, h712, h12, by show (6 : Nat) ≤ sizeLine; decide +kernel, ?_⟩
    have x1 := (w1.same s712).mut (ys := [V.ref v1, V.ref v2, V.ref v3, V.ref v4] ++ [V.ref v5, V.ref v6]) h712 hv12
    have x2 := (w2.same s712).mut (ys := [V.ref v1, V.ref v2, V.ref v3, V.ref v4] ++ [V.ref v5, V.ref v6]) h712 hv12
    have x3 := (w3.same s712).mut (ys := [V.ref v1, V.ref v2, V.ref v3, V.ref v4] ++ [V.ref v5, V.ref v6]) h712 hv12
    have x4 := (w4.same s712).mut (ys := [V.ref v1, V.ref v2, V.ref v3, V.ref v4] ++ [V.ref v5, V.ref v6]) h712 hv12
    have x5 := w5.mut (ys := [V.ref v1, V.ref v2, V.ref v3, V.ref v4] ++ [V.ref v5, V.ref v6]) h712 hv12
    have x6 := w6.mut (ys := [V.ref v1, V.ref v2, V.ref v3, V.ref v4] ++ [V.ref v5, V.ref v6]) h712 hv12
    have uH : L2.Same H (upd G12 pr (.lst ([V.ref v1, V.ref v2, V.ref v3, V.ref v4] ++ [V.ref v5, V.ref v6]))) := Same.mut (t7.trans s712) prH
    have hpr' : (upd G12 pr (.lst ([V.ref v1, V.ref v2, V.ref v3, V.ref v4] ++ [V.ref v5, V.ref v6]))) pr = some (.lst [V.ref v1, V.ref v2, V.ref v3, V.ref v4, V.ref v5, V.ref v6]) := upd_same
    have hm' : (upd G12 pr (.lst ([V.ref v1, V.ref v2, V.ref v3, V.ref v4] ++ [V.ref v5, V.ref v6]))) m = some (.lst zs) := (upd_ne mpr).trans (s712 _ _ hm7)
    have hg' : (upd G12 pr (.lst ([V.ref v1, V.ref v2, V.ref v3, V.ref v4] ++ [V.ref v5, V.ref v6]))) g = some (.lst gz) := (upd_ne gpr).trans (s712 _ _ hg7)
    have hl' : (upd G12 pr (.lst ([V.ref v1, V.ref v2, V.ref v3, V.ref v4] ++ [V.ref v5, V.ref v6]))) l = some (.lst (ns.map V.str)) := (upd_ne lpr).trans (s712 _ _ hl7)
    have el' : EL (upd G12 pr (.lst ([V.ref v1, V.ref v2, V.ref v3, V.ref v4] ++ [V.ref v5, V.ref v6]))) zs es := (el7.same s712).mut h712
    have elg' : EL (upd G12 pr (.lst ([V.ref v1, V.ref v2, V.ref v3, V.ref v4] ++ [V.ref v5, V.ref v6]))) gz gs := (elg7.same s712).mut h712
    generalize upd G12 pr (.lst ([V.ref v1, V.ref v2, V.ref v3, V.ref v4] ++ [V.ref v5, V.ref v6])) = F0 at x1 x2 x3 x4 x5 x6 uH hpr' hm' hg' hl' el' elg'
    refine ⟨_, rfl, pr, rfl, ⟨_, SqL.of hpr'⟩, fun D nD => ?_⟩
    refine lc_pure (walk_list (xs := [V.ref v1, V.ref v2, V.ref v3, V.ref v4, V.ref v5, V.ref v6])) nD (by show (6 : Nat) < 100000; decide) (fun _ sm => SqL.of (sm _ _ hpr')) (fun i y => y = V.bl true) (fun i z H6 H7 Kn2 Z hi sm y q => ?_) (fun F1 us sm6 hD3 hl3 hr4 => ?_)
    · obtain ⟨rfl, hz⟩ := y
      have tw : Two F0 z := by
        match i, hi, hz with
        | 0, _, hz => cases hz; exact x1
        | 1, _, hz => cases hz; exact x2
        | 2, _, hz => cases hz; exact x3
        | 3, _, hz => cases hz; exact x4
        | 4, _, hz => cases hz; exact x5
        | 5, _, hz => cases hz; exact x6
        | n + 6, hi, _ => exact absurd hi (Nat.not_lt.mpr (Nat.le_add_left 6 n))
      obtain ⟨u, a, b, xs, ys, es', fs', rfl, hu, ha, ea, da, hb, eb, db⟩ := tw.same sm
      refine ⟨rfl, _, rfl, u, _, 0, _, rfl, rfl, SqT.of hu, rfl, _, rfl, u, _, 1, _, rfl, rfl, SqT.of hu, rfl, a, b, xs, ys, es', fs', rfl, ha, ea, da, hb, eb, db, fun H' s => q _ _ s rfl⟩
    obtain rfl := List.eq_replicate_iff.mpr ⟨hl3, fun b hb => by
      obtain ⟨i, hi⟩ := List.mem_iff_getElem?.mp hb
      exact hr4 i b hi⟩
    refine ⟨D, [true, true, true, true, true, true], rfl, SqL.of hD3, true, rfl, iteF ?_⟩
    have el1 := el'.same sm6
    have elg1 := elg'.same sm6
    refine ⟨rfl, _, rfl, g, gz, gs, rfl, .inl (sm6 _ _ hg'), elg1, dueg.ok, fun hs m1 m2 kn => (kn_due dueg kn).2, fun x hs m1 m2 F2 s2 nx kd kn => ?_⟩
    obtain ⟨rfl, _⟩ := kn_due dueg kn
    refine ⟨rfl, _, rfl, m, zs, es, rfl, .inl (s2 _ _ (sm6 _ _ hm')), el1.same s2, due.ok, fun hs m1 m2 kn => (kn_due due kn).2, fun y ks n1 n2 F3 s3 ny kd2 kn2 => ?_⟩
    obtain ⟨rfl, _⟩ := kn_due due kn2
    have kd1 := kd.same s3
    obtain ⟨dx, tx, rx, hx⟩ := ins_of kd1
    obtain ⟨dy, ty, ry, hy⟩ := ins_of kd2
    have l0 := dueg.ok.l0
    have sne : decide (shfs hs ks ≠ []) = true := decide_eq_true ((shfs_ne (by omega)).mpr ⟨_, lies⟩)
    refine ⟨x, dx, _, _, rfl, hx, own_ty T hy, nf_own, x, y, hs, ks, _, _, _, _, rfl, kd1, kd2, dueg, due, fun F4 s4 => ⟨_, rfl, ?_⟩⟩
    simp only [sne, Bool.false_eq_true, if_false]
    refine ⟨true, rfl, iteF ?_⟩
    have s64 := sm6.trans (s2.trans (s3.trans s4))
    have uF := uH.trans s64
    exact ⟨_, rfl, _, rfl, _, rfl, p, m, l, zs, ks, ns, rfl, uF _ _ hp, s64 _ _ hm', el'.same s64, due, s64 _ _ hl', ok, by omega, tb.ext uF, fun H' e T' => k H' ((ExtN.of uF).trans e) T'⟩
end
end K12

set_option Elab.async false
set_option linter.all false
set_option maxRecDepth 100000
set_option maxHeartbeats 4000000
namespace K12
open PySem L2 Lay Own SrtO LamX Od
local macro_rules | `(tactic| walk_at "ne") => `(tactic| first | assumption | (apply Ne.symm; assumption) | exact ne_of_none (by walk_at "look") (by assumption) | exact (ne_of_none (by walk_at "look") (by assumption)).symm)
local macro_rules | `(tactic| walk_at "look") => `(tactic| first | assumption | exact upd_same | (refine Eq.trans (upd_ne ?_) ?_; walk_at "ne"; walk_at "look"))
local macro_rules | `(tactic| walk_at "rds") => `(tactic| first | rfl | assumption | walk_at "look" | exact SqL.of (by walk_at "look") | exact SqT.of (by walk_at "look") | exact Or.inl (SqL.of (by walk_at "look")) | exact Or.inl (by assumption) | decide | omega | exact Nat.le_of_ble_eq_true rfl | exact Or.inr ⟨by decide, by decide⟩ | exact Or.inl ⟨by omega, by omega⟩ | exact ⟨by decide, by decide⟩)
local macro_rules | `(tactic| walk_at "rd1") => `(tactic| first | (apply Exists.intro) | (refine And.intro ?_ ?_; walk_at "rds") | (refine Or.inl ?_; apply Exists.intro; refine And.intro ?_ ?_; rfl))
local macro_rules | `(tactic| walk_at "rd") => `(tactic| repeat walk_at "rd1")
section
variable {P : Program} {w : World} {K : PySem.W.Frag} {mg : Str → Option Value} {base : Heap} {t : Tbs}
theorem tabs_mut {Tl : List (Addr × Str)} {H : Hp} {a : Addr} {xs ys : List V} (h : Tabs Tl H) (ha : H a = some (.lst xs)) : Tabs Tl (upd H a (.lst ys)) := by
  intro p hp
  obtain ⟨qs, h1, h2, h3⟩ := h p hp
  refine ⟨qs, (upd_ne fun z => by rw [z, ha] at h1; cases h1).trans h1, h2, fun pos cv hc => ?_⟩
  obtain ⟨c, e1, e2⟩ := h3 pos cv hc
  exact ⟨c, e1, (upd_ne fun z => by rw [z, ha] at e2; unfold CodeO at e2; cases e2).trans e2⟩
/-- a comprehension whose elements are True, while tables grow -/
theorem lc_ext {J : L2.It} {n : Nat} {G : Hp → Prop} {Y : Nat → Hp → V → Hp → Prop} (wk : Walk J n G Y) {g : TG} {tt : TT} {te : TE} {vs : List Nat} {σ : L2.St} {H1 : Hp} {D : Addr} {Qd : Hp → Prop} (T1 : Tabs t.l H1) (nD : H1 D = none) (hn : n < 100000)
    (hG : ∀ H, ExtN H1 H → G H)
    (hs : ∀ i x H H' (Kn : V → Hp → Prop) (Z : Hp → Prop), i < n → ExtN H1 H → Tabs t.l H → Y i H x H' → (∀ H4, ExtN H H4 → Tabs t.l H4 → Kn (.bl true) H4) →
      g x (wipe σ vs) H' fun σ2 H2 => wipe σ2 vs = wipe σ vs ∧ tt σ2 H2 fun b H3 => if b = true then te σ2 H3 Kn else Z H3)
    (hd : ∀ H xs, ExtN H1 H → Tabs t.l H → H D = some (.lst xs) → xs.length = n → (∀ y ∈ xs, y = .bl true) → Qd H) :
    ∃ W : Nat → Nat → Hp → Prop, (∃ m, W 0 m (upd H1 D (.lst []))) ∧ ∀ i m H, W i m H →
      (J.stop i H ∧ Qd H) ∨ (J.go i H ∧ ∃ Nx : Hp → Prop, (∀ H', Nx H' → ∃ m', m' < m ∧ W (i + 1) m' H') ∧ ∀ x H', J.yld i H x H' → g x (wipe σ vs) H' fun σ2 H2 => wipe σ2 vs = wipe σ vs ∧ tt σ2 H2 fun b H3 =>
        if b = true then te σ2 H3 fun y H4 => ∃ acc, H4 D = some (.lst acc) ∧ acc.length < sizeLine ∧ Nx (upd H4 D (.lst (acc ++ [y]))) else Nx H3) := by
  refine lc_it wk (fun i H => ExtN H1 H ∧ Tabs t.l H ∧ ∃ xs, H D = some (.lst xs) ∧ xs.length = i ∧ ∀ y ∈ xs, y = .bl true) ?_ ?_ ?_ ?_
  · have s := Same.new (o := .lst []) nD
    exact ⟨.of s, T1.ext s, [], upd_same, rfl, fun y e => by cases e⟩
  · exact fun i H _ h => hG H h.1
  · intro i x H H' hi ⟨e, T, xs, hD, hl, hr⟩ y
    refine hs i x H H' _ _ hi e T y fun H4 e4 T4 => ⟨xs, e4 _ _ hD nt_lst, by rw [hl]; exact Nat.lt_trans (Nat.lt_trans hi hn) (by decide), ?_⟩
    have h4 := e4 _ _ hD nt_lst
    refine ⟨fun b o hb np => ?_, tabs_mut T4 h4, xs ++ [.bl true], upd_same, by simp [hl], fun y hy => ?_⟩
    · rw [upd_ne (ne_of_none hb nD)]
      exact e4 _ _ (e _ _ hb np) np
    · rcases List.mem_append.mp hy with hy | hy
      · exact hr y hy
      · exact List.mem_singleton.mp hy
  · intro H ⟨e, T, xs, hD, hl, hr⟩
    exact hd H xs e T hD hl hr
theorem SqL.ext {H H' : Hp} {a : Addr} {xs : List V} (h : SqL K H a xs) (e : ExtN H H') : SqL K H' a xs := by
  rcases h with (h | ⟨o, h⟩) | h
  · exact .inl (.inl (e _ _ h nt_lst))
  · exact .inl (.inr ⟨o, e _ _ h fun ps z => by cases z⟩)
  · exact .inr h
def spLaw (K : PySem.W.Frag) (t : Tbs) : Sp := fun vs H Q _ => ∃ (s : Addr) (ns : List Int), vs = [.ref s] ∧ SqL K H s (ns.map V.int) ∧ ns.length ≤ 63 ∧ Tabs t.l H ∧ ∀ H', ExtN H H' → Tabs t.l H' → Q (.bl true) H'
theorem g_law (TT : TxT K mg base t) {f : Addr} {fd : FuncData} (F : Fun K "law" "law" s_law f fd) : FnG P w K mg base CX0 15 f fd ["_law_script"] (spLaw K t) := by
  have T := TT.T
  have D_l_pot := d_pot (P := P) (w := w) (base := base) T
  have D_l_right := d_right (P := P) (w := w) (base := base) TT
  refine okG F sc_law (fun vs H Q E h => ?_) (fun cdv A outer s H vs Q E hr hgd h => ?_)
  · obtain ⟨p, _, rfl, _⟩ := h; rfl
  · obtain ⟨p, ns, rfl, hp, hn, tb, k⟩ := h
    refine ⟨_, (pss_one (ps_ret (pe_callB (cr_all rfl) (by rfl) T.n_all (by decide +kernel) (pa_cons (pe_lc (own := [("_law_k", 1)]) rfl sc_law.nd (pi_range1 (by rfl) T.n_range (pa_cons (pe_callB (call_max2 rfl) (by rfl) T.n_max (by decide +kernel) (pa_cons pe_int (pa_cons (pe_callB (call_min2 rfl) (by rfl) T.n_min (by decide +kernel) (pa_cons pe_int (pa_cons (pe_callB call_len_seq (by rfl) T.n_len PySem.boot_len (pa_cons (pv 0) pa_nil)) pa_nil))) pa_nil))) pa_nil)) (blkOk_by (own := [("_law_k", 1)]) (N := ["_law_script", "_law_k"]) (sc := defScope s_law) (by decide +kernel)) (fun _ _ _ _ _ => (pg_name (i := 1) sc_law.nd rfl (by first | exact Or.inl rfl | exact Or.inr rfl))) (fun _ _ _ _ _ => pts_nil) (fun _ _ _ _ _ => (pe_own D_l_right (hr.mono (by first | decide | omega)) hgd (pa_cons (pe_own D_l_pot (hr.mono (by first | decide | omega)) hgd (pa_cons (pv 0) (pa_cons (pv 1) pa_nil))) pa_nil)))) pa_nil)))), ?_⟩
    refine ⟨_, rfl, p, _, rfl, .inl hp, 6, _, rfl, 1, _, rfl, ?_⟩
    rw [List.length_map]
    obtain ⟨N, hN⟩ : ∃ N : Int, (if (if ((ns.length : Nat) : Int) < 6 then ((ns.length : Nat) : Int) else 6) > 1 then (if ((ns.length : Nat) : Int) < 6 then ((ns.length : Nat) : Int) else 6) else 1) = N := ⟨_, rfl⟩
    have nb : 0 ≤ N ∧ N ≤ 6 := by
      rw [← hN]
      split
      · split <;> omega
      · omega
    rw [hN]
    refine ⟨N, rfl, by omega, by omega, fun D nD => ?_⟩
    refine lc_ext (t := t) (n := N.toNat) walk_range tb nD (by omega) (fun _ _ => trivial) (fun i x H4 H5 Kn Z hi e4 T4 y q => ?_) (fun H4 xs e4 T4 hD hl hr => ?_)
    · obtain ⟨rfl, rfl⟩ := y
      refine ⟨rfl, _, rfl, _, rfl, p, ns, i, by show [V.ref p, V.int (0 + (i : Int))] = _; rw [Int.zero_add], SqL.ext hp e4, hn, by omega, fun u H2 nt s2 ht => ?_⟩
      exact ⟨u, rfl, ht, T4.ext s2, fun H3 e3 T3 => q _ ((ExtN.of s2).trans e3) T3⟩
    · have e : xs = (List.replicate xs.length true).map V.bl := by
        rw [List.map_replicate]
        exact List.eq_replicate_iff.mpr ⟨rfl, hr⟩
      refine ⟨D, List.replicate xs.length true, rfl, by rw [← e]; exact SqL.of hD, ?_⟩
      have z : (List.replicate xs.length true).all id = true := by
        rw [List.all_eq_true]
        intro x hx
        rw [(List.mem_replicate.mp hx).2]
        rfl
      rw [z]
      exact k _ e4 T4
end
end K12

set_option Elab.async false
set_option linter.all false
set_option maxRecDepth 100000
set_option maxHeartbeats 0
open PySem PySem.W PySem.Calls PyProof.Rows
theorem PySem.Challenge.cw_twoeach_k12_kinds_held_and_renamed_holds : PySem.Challenge.rw_twoeach_k12_kinds_held_and_renamed.Holds := by
  w_on; o_law
  refine HandSHeadRun.head_any (r := OpenLaw.row PySem.Challenge.rw_twoeach_k12_kinds_held_and_renamed) (q := view (OpenLaw.row PySem.Challenge.rw_twoeach_k12_kinds_held_and_renamed).prog [44]) (H := K12.hk) (ob := K12.ob) (M := 9600) (loose := K12.looseL) (d := HandSHeadRun.topDef (OpenLaw.row PySem.Challenge.rw_twoeach_k12_kinds_held_and_renamed).prog 44) (kwd := []) K12.ob_eq
    (by kernel_rfl) (fun s => by kernel_rfl) K12.run (by kernel_rfl) (by kernel_rfl) (by kernel_rfl) (by rfl) (by first | assumption | decide +kernel) (by decide +kernel) ⟨rfl, rfl, rfl, rfl, rfl, by decide +kernel⟩ ?hw ?hc
  case hw => w_witness2
  case hc =>
    refine Ht.walk_TE (l := PySem.Challenge.rw_twoeach_k12_kinds_held_and_renamed) (n := 63) (k := 15) (x := "_law_script") rfl (by decide) (by kernel_rfl) ⟨rfl, by decide, by decide⟩ ?F
    intro w mg fa h Y G hmg0
    obtain ⟨K, KX, c⟩ := Y
    have hmg : mg ("law" : PySem.Str) = some (.ref fa) := by
      have e : (HandSHeadRun.topDef (OpenLaw.row PySem.Challenge.rw_twoeach_k12_kinds_held_and_renamed).prog 44).name = ("law" : PySem.Str) := by kernel_rfl
      rw [← e]
      exact hmg0
    obtain ⟨fd, F⟩ := Ha.says_d c.a 29
    have gl := He.glo_ok (x := "law") KX G (K12.fa_at (Ha.says_b c.a) 53)
    have ea : fa = He.ga K "law" := by
      have z := hmg.symm.trans gl
      cases z
      rfl
    have of_ct : ∀ (R : Addr × Addr → Prop), (∀ p ∈ K12.tfL, R (He.cT K p)) → ∀ p ∈ K12.cts K, R p := fun R hR p hp => by
      obtain ⟨q, hq, rfl⟩ := List.mem_map.mp hp
      exact hR q hq
    refine ⟨K, fd, K12.spLaw K (K12.tbs K), K12.cts K, KX, of_ct _ c.void, of_ct _ c.out, of_ct _ c.code, fun s u => ?_, fun H a ns hl hT hS => ⟨a, ns, rfl, hS, hl, ?_, fun _ _ _ => rfl⟩, fun base kb nb tb => ?_⟩
    · obtain ⟨oc, od, kV, doc, pm, an, cdv, ct, osl, rfl, lk, hcd⟩ := F.ex
      exact BindsTo.of_eq (by rfl)
    · exact K12.tabs_void fun p hp => hT _ (List.mem_map.mpr ⟨p, hp, rfl⟩)
    · subst ea
      exact K12.g_law (K12.txT KX G c.a tb) F

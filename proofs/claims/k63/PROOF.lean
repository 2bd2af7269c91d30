import PyProof.Rows.All
import Wide.All
import OpenK.AllK
import Wide.FinOn
import HandS.ForMost
import HandS.WideBits
import HandS.Flow
import HandS.Exc
import KE.KExcInit
import HandS.ExcInit
import HandS.ExcIs
import HandS.IsInst
import HandS.Star
import HandS.Walk
import HandS.FStr
import HandS.Property
import HandS.ClsMeth
import OpenK.KOps
import PyProof.InstNe
import PyProof.ReprHeadsEmpty
import HandS.SortOrd
import HandS.TupLe
import HandS.Set
import HandS.SetFor
import HandS.Strs
import HandS.SortRule
import PyProof.ReprHeadsTuple
import KE.GoesMore
import HandS.Deep
import KE.GoesEnum
import HandS.TryMany
import HandS.WordsExc
import HandS.ExcValue
import HandS.Lambda
import HandS.Defaults
import OpenK.KMeth
import KE.KOpsOwn
import HandS.HeadHook4
import PySem.Challenge.RW_twoeach_k63_whole_reduced_and_same
import HandS.Head0
import HandS.Head1
import HandS.Head2
import HandS.HeadEnd
import HandS.HeadHook1
import HandS.HeadHook2
import HandS.StrMore
import HandS.Text
import KE.KDictWalk
import HandS.DictComp
import HandS.DictTup
import PyProof.DictFindH
import KE.KDictItemsList
import KE.KDictPairs
import KE.KDictCopyH
import KE.KDictKeyed
import HandS.Conv
import PyProof.FString3
import PyProof.Rows.StrIntSpec
import PyProof.Rows.SortShellAny
import KE.SortKeyHeap
import HandS.SortKw
import HandS.RaiseMore
import PyProof.StrLawsRepr
import PyProof.ReprLen
import KE.KRevSl
import KE.KDictDisplayH
set_option Elab.async false
set_option linter.all false
set_option maxRecDepth 100000
namespace Lay
open PySem L2 PySem.Spec PyProof.Rows
/-! ### a def's promise where it is known that no text of an object is being made (for repr) -/
structure FnG (P : Program) (w : World) (K : PySem.W.Frag) (mg : Str → Option Value) (base : Heap) (CX : CXT) (k : Nat) (f : Addr) (fd : FuncData)
    (ps : List Str) (sp : Sp) : Prop where
  len : ∀ vs H Q E, sp vs H Q E → vs.length = ps.length
  run : ∀ (A : Around) (outer : List Env) (s : Shared) (H : Hp) (args : Args) (us : List Value) (vs : List V) (Q : VK) (E : XK),
    Room k A → A.guards = some [] → Env0 P w K mg base A outer s H → BindsTo s fd args (ps.zip us) → Vals vs us → sp vs H Q E →
    codeAny (model P w) A (.call (.ref f) args) (CR CX outer P w H s Q E) s
section
variable {CX : CXT} {P : Program} {w : World} {K : PySem.W.Frag} {mg : Str → Option Value} {base : Heap} {k : Nat} {f : Addr} {fd : FuncData} {ps : List Str} {sp sp' : Sp}
theorem FnG.of (F : FnOk P w K mg base CX k f fd ps sp) : FnG P w K mg base CX k f fd ps sp :=
  ⟨F.len, fun A outer s H args us vs Q E hr _ => F.run A outer s H args us vs Q E hr⟩
theorem FnG.imp (F : FnG P w K mg base CX k f fd ps sp) (h : ∀ vs H Q E, sp' vs H Q E → sp vs H Q E) : FnG P w K mg base CX k f fd ps sp' :=
  ⟨fun vs H Q E z => F.len vs H Q E (h _ _ _ _ z), fun A outer s H args us vs Q E hr hg he hb hv z => F.run A outer s H args us vs Q E hr hg he hb hv (h _ _ _ _ z)⟩
theorem FnG.mono {j : Nat} (F : FnG P w K mg base CX j f fd ps sp) (h : j ≤ k) : FnG P w K mg base CX k f fd ps sp :=
  ⟨F.len, fun A outer s H args us vs Q E hr => F.run A outer s H args us vs Q E (hr.mono h)⟩
/-- a def of the text, by its body -/
theorem fnG_of {name qual : Str} {params : Arguments} {body : List Stmt} {scope : Scope} {dV kV doc pm cdv ct oc : Value} {an od : Option Addr}
    {osl : Array (Option Value)} {N : List Str} (lk : K.lookup f = some ⟨oc, od, .func (PySem.W.fnOf name qual params body scope dV kV doc pm an cdv ct), osl⟩)
    (hcd : PySem.W.codeIn K cdv qual = true) (S : FnScope N ps scope) (len : ∀ vs H Q E, sp vs H Q E → vs.length = ps.length)
    (hbody : ∀ (A : Around) (outer : List Env) (s : Shared) (H : Hp) (vs : List V) (Q : VK) (E : XK), Room k (A.deeper (envOfC qual scope s.heap.objs.size f cdv)) →
      A.guards = some [] → sp vs H Q E →
      ∃ t, PSs (cxOf CX P w K mg base N qual scope f cdv A outer s H E) body t ∧ t { nx := fun _ H' => Q .non H', rt := Q } (start N vs) H) :
    FnG P w K mg base CX (k + 1) f (PySem.W.fnOf name qual params body scope dV kV doc pm an cdv ct) ps sp := by
  refine ⟨len, fun A outer s H args us vs Q E hr hg e0 hb r hsp => ?_⟩
  have hl := len _ _ _ _ hsp
  have kx : K.In s.heap := e0.mod.kin.keeps fun b o e => (e0.bs b o e).1
  have nl : s.heap.NoLimit := e0.mod.nolimit.keeps fun b o e => (e0.bs b o e).1
  have kinds : ∀ y ∈ ps.zip us, scope.names.lookup y.1 = some .local ∨
      (scope.names.lookup y.1 = some .cell ∧ ((cellsFrom (s.heap.objs.size + 1) scope.names []).lookup y.1).isSome = true) := fun ⟨n, v⟩ hy => by
    rcases S.par n (List.of_mem_zip hy).1 with q | q
    · exact .inl q
    · exact .inr ⟨q, PySem.W.cellsFrom_some _ _ _ (.inl q)⟩
  refine codeAny_call_function hr.depth (kx _ _ lk) rfl S.co S.gen rfl (PySem.W.codeRec_of kx hcd) (hb _ _ _ _ ?_)
  refine wpAny_newFunctionEnv_cells S.kind kinds fun env he s1 x => ?_
  subst he
  refine ⟨nl.keeps x.toInCall.keep, codeAny_func ?_⟩
  obtain ⟨t, ht, hq⟩ := hbody A outer s H vs Q E (hr.deeper _) hg hsp
  have I : Inv (cxOf CX P w K mg base N qual scope f cdv A outer s H E) [] (start N vs) H s1 := inv_start S hr.hd e0 hl r x
  refine wpAny_mono (ht.run [] s1 (start N vs) H _ I hq) (fun fl s' hs => ?_) fun e s' hs => hs
  cases fl with
  | ret u =>
    obtain ⟨v, σ', H', J, rv, q⟩ := hs
    exact ⟨v, H', J.os, J.bare, J.base, J.hok, rv, q⟩
  | next =>
    obtain ⟨σ', H', J, q⟩ := hs
    exact ⟨V.non, H', J.os, J.bare, J.base, J.hok, rfl, q⟩
  | brk =>
    obtain ⟨_, _, _, q⟩ := hs
    exact False.elim q
  | cont =>
    obtain ⟨_, _, _, q⟩ := hs
    exact False.elim q
end
theorem okG {P : Program} {w : World} {K : PySem.W.Frag} {mg : Str → Option Value} {base : Heap} {x qual : Str} {st : Stmt} {f : Addr} {fd : FuncData} {N ps : List Str} {k : Nat} {sp : Sp}
    (F : Fun K x qual st f fd) (S : FnScope N ps (defScope st)) (len : ∀ vs H Q E, sp vs H Q E → vs.length = ps.length)
    (hbody : ∀ (cdv : Value) (A : Around) (outer : List Env) (s : Shared) (H : Hp) (vs : List V) (Q : VK) (E : XK),
      Room k (A.deeper (envOfC qual (defScope st) s.heap.objs.size f cdv)) → A.guards = some [] → sp vs H Q E →
      ∃ t, PSs (cxOf CX0 P w K mg base N qual (defScope st) f cdv A outer s H E).nox (defBody st) t ∧ t { nx := fun _ H' => Q .non H', rt := Q } (start N vs) H) :
    FnG P w K mg base CX0 (k + 1) f fd ps sp := by
  obtain ⟨oc, od, kV, doc, pm, an, cdv, ct, osl, rfl, lk, hcd⟩ := F.ex
  refine fnG_of lk hcd S len fun A outer s H vs Q E hr hg hsp => ?_
  obtain ⟨t, h, q⟩ := hbody cdv A outer s H vs Q E hr hg hsp
  exact ⟨t, h.nox, q⟩
section
variable {X : Cx} {k : Nat} {f : Addr} {fd : FuncData} {ps ks : List Str} {sp : Sp} {pins : List (Addr × Obj)} {σ : L2.St} {H : Hp} {s : Shared} {Q : VK} {us ws : List Value} {vs zs : List V}
theorem run_G {args : Args} {us' : List Value} {vs' : List V} (F : FnG X.prog X.w X.K X.mg X.base CX0 k f fd ps sp) (hr : Room k X.A) (hg : X.A.guards = some []) (I : Inv X pins σ H s)
    (hb : BindsTo s fd args (ps.zip us')) (r : Vals vs' us') (h : sp vs' H Q E0) : codeAny (model X.prog X.w) X.A (.call (.ref f) args)
      (fun r s' => match r with | .ok (.ret v) => EP X pins σ Q v s' | .ok _ => False | .error x => X.xe x s') s := by
  refine codeAny_mono (F.run X.A X.stack s H args us' vs' Q E0 hr hg I.env0 hb r h) fun r s' hq => ?_
  cases r with
  | error e => exact False.elim hq
  | ok fl =>
    cases fl with
    | ret u => exact I.after hq
    | next => exact False.elim hq
    | brk => exact False.elim hq
    | cont => exact False.elim hq
end

/-! ### the end of a law row -/
theorem law_callG {P : Program} {w : World} {K : PySem.W.Frag} {mg mb : Str → Option Value} {k : Nat} {fa a : Addr} {fd : FuncData} {x : Str} {sp : Sp} {s1 : Shared} {vs : List Value} {ns : List Int}
    (KX : K.In s1.heap) (hns : s1.heap.Ns mainGlobals mg) (hb : s1.heap.Ns builtinsNs mb) (hbb : ∀ x : Str, x ≠ "__name__" → mb x = bootBuiltins x)
    (hlim : s1.heap.NoLimit) (hg : s1.gens = #[]) (ha : s1.heap.get? a = some { cls := .type "list", data := .seq vs.toArray }) (hi : IntsAre vs ns)
    (hl : ns.length ≤ sizeLine) (hr : Room k callerA) (F : ∀ base : Heap, K.In base → base.Ns mainGlobals mg → FnG P w K mg base CX0 k fa fd [x] sp)
    (hbind : ∀ (s : Shared) (u : Value), BindsTo s fd ⟨[u], []⟩ [(x, u)])
    (hsp : ∀ H : Hp, Only H → SqL K H a (ns.map V.int) → sp [.ref a] H (fun v _ => v = .bl true) fun _ _ _ => False) :
    codeAny (model P w) callerA (.call (.ref fa) ⟨[.ref a], []⟩)
      (fun r s' => r = .ok (.ret (.bool true)) ∧ OldK s1.heap s'.heap ∧ s'.os = s1.os ∧ AllBare s'.gens) s1 := by
  have rv := vals_ints hi
  have lenV := hi.length
  have core : ∀ H : Hp, Only H → SqL K H a (ns.map V.int) → HOk P w H s1.heap → (∀ b, H b ≠ none → b = a) → (H a ≠ none → K.lookup a = none) →
      codeAny (model P w) callerA (.call (.ref fa) ⟨[.ref a], []⟩)
        (fun r s' => r = .ok (.ret (.bool true)) ∧ OldK s1.heap s'.heap ∧ s'.os = s1.os ∧ AllBare s'.gens) s1 := by
    intro H hO hS hok hA hK
    have bo : ∀ {b : Addr} {o : Obj}, s1.heap.get? b = some o → H b = none → (hidT s1.heap H).get? b = some o := fun e n => hidT_get e n
    have na : ∀ {b : Addr} {o : Obj} {es : Array DictEntry} {ep : Nat}, s1.heap.get? b = some o → o.data = .dict es ep → H b = none := by
      intro b o es ep e d
      cases q : H b with
      | none => rfl
      | some u =>
        have e' : b = a := hA b (by rw [q]; simp)
        subst e'
        rw [ha] at e; cases e
        have d' : Data.seq vs.toArray _ = Data.dict es ep := d
        cases d'
    have nsK : ∀ {b : Addr} {m : Str → Option Value}, s1.heap.Ns b m → (hidT s1.heap H).Ns b m := by
      intro b m ⟨o, es, ep, e, d, r⟩
      exact ⟨o, es, ep, bo e (na e d), d, r⟩
    have kb : K.In (hidT s1.heap H) := by
      intro b o e
      refine bo (KX b o e) ?_
      cases q : H b with
      | none => rfl
      | some u =>
        have e' : b = a := hA b (by rw [q]; simp)
        subst e'
        rw [hK (by rw [q]; simp)] at e; cases e
    have hM : Mod K mg (hidT s1.heap H) := by
      obtain ⟨mc, h1, h2⟩ := hlim
      exact ⟨kb, nsK hns, ⟨mb, nsK hb, hbb⟩, ⟨mc, nsK h1, h2⟩⟩
    have e0 : Env0 P w K mg (hidT s1.heap H) callerA [] s1 H :=
      ⟨rfl, hM, fun b o e => of_hidT e, Nat.le_of_eq (hidT_size _ _), trivial, fun b hb => absurd (show b ∈ ([] : List Addr) from hb) (by simp), hok, .of_eq hg⟩
    refine codeAny_mono ((F _ kb (nsK hns)).run callerA [] s1 H ⟨[.ref a], []⟩ [.ref a] [.ref a] _ _ hr rfl e0 (hbind s1 (.ref a)) (.cons rfl .nil) (hsp H hO hS)) fun r s' h => ?_
    cases r with
    | error e => exact h.elim
    | ok fl =>
      cases fl with
      | next => exact False.elim h
      | brk => exact False.elim h
      | cont => exact False.elim h
      | ret u =>
        obtain ⟨v, H', os, bare, un, hok', r', q⟩ := h
        have q' : v = .bl true := q
        subst q'
        obtain rfl : u = Value.bool true := r'
        refine ⟨rfl, OldK.of_keep fun b o e => ?_, os, bare⟩
        cases q : H b with
        | none => exact un.keep b o e q (fun z => nomatch (show b ∈ ([] : List Addr) from z)) (by simp)
        | some u =>
          rcases hO b with z | ⟨ob, xs, z⟩
          · rw [q] at z; cases z
          · obtain ⟨e1, _⟩ := hok b _ z
            obtain ⟨e2, _⟩ := hok' b _ (un.frzs b ob _ z)
            rw [e] at e1; cases e1
            exact e2
  cases hk : K.lookup a with
  | some o =>
    have e := KX a o hk
    rw [ha] at e
    cases e
    exact core (fun _ => none) (fun _ => .inl rfl) (.inr ⟨_, vs.toArray, _, hk, rfl, rfl, rfl, by rw [List.size_toArray, lenV]; exact hl, by simpa using rv⟩)
      (fun b u z => by cases (show (none : Option HO) = some u from z)) (fun b z => absurd rfl z) fun z => absurd rfl z
  | none =>
    refine core (fun b => if b = a then some (.frz { cls := .type "list", data := .seq vs.toArray } (.lst (ns.map V.int))) else none)
      (fun b => ?_) (.inl (.inr ⟨{ cls := .type "list", data := .seq vs.toArray }, if_pos rfl⟩)) (fun b u z => ?_) (fun b z => ?_) fun _ => hk
    · by_cases hb : b = a
      · exact .inr ⟨_, _, if_pos hb⟩
      · exact .inl (if_neg hb)
    · by_cases hb : b = a
      · cases (if_pos hb).symm.trans z
        subst hb
        exact ⟨ha, by rw [List.length_map]; exact hl, vs, _, rv, ha⟩
      · cases (if_neg hb).symm.trans z
    · by_cases hb : b = a
      · exact hb
      · exact absurd (if_neg hb) z
theorem walk_G {l : PySem.W.OpenLaw} {n k : Nat} {q : Program} {loose : List Str} {XP : (Str → Option Value) → Heap → Prop} {YP : World → Heap → Prop} {d : DefRec} {K : Params → PySem.W.Frag}
    {sp : PySem.W.Frag → Sp} {x : Str} (hn : l.most = some n) (hn2 : n ≤ sizeLine) (hdf : d.params.defaults = []) (hr : Room k callerA)
    (hY : ∀ (w : World) (h : Heap), YP w h → (K w.params).In h)
    (F : ∀ (w : World) (mg : Str → Option Value) (fa : Addr) (h : Heap), (K w.params).In h → h.Ns mainGlobals mg → mg d.name = some (.ref fa) →
      ∃ fd : FuncData, (∀ (s : Shared) (u : Value), BindsTo s fd ⟨[u], []⟩ [(x, u)]) ∧
        ∀ base : Heap, (K w.params).In base → base.Ns mainGlobals mg → FnG l.prog w (K w.params) mg base CX0 k fa fd [x] (sp (K w.params)))
    (hsp : ∀ (K : PySem.W.Frag) (H : Hp) (a : Addr) (ns : List Int), ns.length ≤ n → Only H → SqL K H a (ns.map V.int) → sp K [.ref a] H (fun v _ => v = .bl true) fun _ _ _ => False) :
    PySem.W.WalkO q loose XP YP l.row.toRowW d [] (fun f vs => PySem.call f vs) := by
  refine Att.attach_call hn hdf fun w s0 s1 mg mb fa o pm cd doc a vs ns G Y ho hd hcd hmg hobj hints hlen hg => ?_
  have KX := hY w _ Y
  obtain ⟨fd, hb, hF⟩ := F w mg fa _ KX G.T.g hmg
  exact law_callG KX G.T.g G.T.b G.T.builtins G.T.nolimit hg hobj hints (Nat.le_trans hlen hn2) hr hF hb fun H hO hS => hsp _ H a ns hlen hO hS
end Lay

set_option Elab.async false
set_option linter.all false
set_option maxRecDepth 100000
set_option maxHeartbeats 4000000
namespace Lay
open PySem L2

/-! ### the same objects, some of them told otherwise -/
structure Alike (H H1 : Hp) : Prop where
  none : ∀ b, H b = Option.none ↔ H1 b = Option.none
  tup : ∀ b xs, H b = some (.tup xs) ↔ H1 b = some (.tup xs)
  frz : ∀ b o u, H b = some (.frz o u) ↔ H1 b = some (.frz o u)
  tbl : ∀ b ps, H b = some (.tbl ps) ↔ H1 b = some (.tbl ps)
theorem Alike.refl {H : Hp} : Alike H H := ⟨fun _ => Iff.rfl, fun _ _ => Iff.rfl, fun _ _ _ => Iff.rfl, fun _ _ => Iff.rfl⟩
/-- no tuple, no locked object, no table, no own dict -/
def plainO : HO → Bool
  | .tup _ => false
  | .frz _ _ => false
  | .tbl _ => false
  | .own _ => false
  | _ => true
theorem Alike.upd {H : Hp} {q : Addr} {o o' : HO} (h : H q = some o) (p : plainO o = true) (p' : plainO o' = true) : Alike H (upd H q o') := by
  refine ⟨fun b => ?_, fun b xs => ?_, fun b o u => ?_, fun b ps => ?_⟩ <;> by_cases e : b = q
  · subst e; rw [upd_same, h]; constructor <;> intro z <;> cases z
  · rw [upd_ne e]
  · subst e; rw [upd_same, h]; constructor <;> intro z <;> cases z <;> first | cases p | cases p'
  · rw [upd_ne e]
  · subst e; rw [upd_same, h]; constructor <;> intro z <;> cases z <;> first | cases p | cases p'
  · rw [upd_ne e]
  · subst e; rw [upd_same, h]; constructor <;> intro z <;> cases z <;> first | cases p | cases p'
  · rw [upd_ne e]
theorem un_alike {fs : List Addr} {H H1 H2 H3 : Hp} {h h' : Heap} (a : Alike H H1) (b : Alike H2 H3) (u : Un fs [] H1 H2 h h') : Un fs [] H H3 h h' where
  keep := fun c o q n hc hx => u.keep c o q ((a.none c).mp n) hc hx
  slot := fun c o q n hc hx => u.slot c o q ((a.none c).mp n) hc hx
  free := fun c o q n hx => (b.none c).mp (u.free c o q ((a.none c).mp n) hx)
  there := fun c o q hx => u.there c o q hx
  tups := fun c xs q => (b.tup c xs).mp (u.tups c xs ((a.tup c xs).mp q))
  frzs := fun c o x q => (b.frz c o x).mp (u.frzs c o x ((a.frz c o x).mp q))
  tbls := fun c ps q => by
    obtain ⟨m, z⟩ := u.tbls c ps ((a.tbl c ps).mp q)
    exact ⟨m, (b.tbl c _).mp z⟩
theorem hok_retell {P : Program} {w : World} {H : Hp} {h : Heap} {q : Addr} {o o' : HO} (x : HOk P w H h) (e : H q = some o) (p : plainO o = true) (new : ObjOk P w (upd H q o') h q o') : HOk P w (upd H q o') h := fun b u eb => by
  by_cases hb : b = q
  · subst hb; rw [upd_same] at eb; cases eb; exact new
  · rw [upd_ne hb] at eb
    refine (x b u eb).stay (fun _ _ _ z => z) (fun c z => ?_) fun c xs z => ?_
    · rw [upd_ne (fun e' => by subst e'; rw [e] at z; cases z; cases p)]; exact z
    · rw [upd_ne (fun e' => by subst e'; rw [e] at z; cases z; cases p)]; exact z
theorem retell {P : Program} {w : World} {K : PySem.W.Frag} {mg : Str → Option Value} {base : Heap} {k : Nat} {f : Addr} {fd : FuncData} {ps : List Str} {sp sp' : Sp} (F : FnG P w K mg base CX0 k f fd ps sp) (hl : ∀ vs H Q E, sp' vs H Q E → vs.length = ps.length)
    (h : ∀ vs H Q E hp, sp' vs H Q E → HOk P w H hp → ∃ H1, Alike H H1 ∧ HOk P w H1 hp ∧ sp vs H1 (fun v H2 => ∀ hp', HOk P w H2 hp' → ∃ H3, Alike H2 H3 ∧ HOk P w H3 hp' ∧ Q v H3) E) : FnG P w K mg base CX0 k f fd ps sp' := by
  refine ⟨hl, fun A outer s H args us vs Q E hr hg e0 hb hv hs => ?_⟩
  obtain ⟨H1, al, ok1, hs1⟩ := h vs H Q E s.heap hs e0.hok
  have e1 : Env0 P w K mg base A outer s H1 := ⟨e0.frames, e0.mod, fun b o e => ⟨(e0.bs b o e).1, (al.none b).mp (e0.bs b o e).2⟩, e0.bsz, e0.funs, fun b hb => (al.none b).mp (e0.frf b hb), ok1, e0.bare⟩
  refine codeAny_mono (F.run A outer s H1 args us vs _ E hr hg e1 hb hv hs1) fun r s' q => ?_
  cases r with
  | error er => exact False.elim q
  | ok fl =>
    cases fl with
    | ret u =>
      obtain ⟨v, H2, os, ba, un, ok2, rv, q2⟩ := q
      obtain ⟨H3, al2, ok3, q3⟩ := q2 s'.heap ok2
      exact ⟨v, H3, os, ba, un_alike al al2 un, ok3, rv, q3⟩
    | next => exact False.elim q
    | brk => exact False.elim q
    | cont => exact False.elim q

/-! ### a def of the text, with all that a call of it needs -/
def Kw1 (fd : FuncData) (ps : List Str) : Prop := ∀ p v, ps = [p] → bindArgs fd ⟨[], [(p, v)]⟩ = pure [(p, v)]
def Src (K : PySem.W.Frag) (mg : Str → Option Value) (x : Str) (st : Stmt) (ps : List Str) : Prop := ∃ f fd, Fun K x x st f fd ∧ mg x = some (.ref f) ∧ Binds K fd ps [] ∧ Kw1 fd ps
def Df (P : Program) (w : World) (K : PySem.W.Frag) (mg : Str → Option Value) (base : Heap) (k : Nat) (x : Str) (ps : List Str) (sp : Sp) : Prop :=
  ∃ f fd, FnG P w K mg base CX0 k f fd ps sp ∧ mg x = some (.ref f) ∧ PySem.W.keepIn K (.ref f) = true ∧ Binds K fd ps [] ∧ Kw1 fd ps
section
variable {P : Program} {w : World} {K : PySem.W.Frag} {mg : Str → Option Value} {base : Heap} {x : Str} {st : Stmt} {N ps : List Str} {sp sp' : Sp} {k j : Nat}
theorem Src.ok (S : Src K mg x st ps) (h : ∀ f fd, Fun K x x st f fd → FnG P w K mg base CX0 k f fd ps sp) : Df P w K mg base k x ps sp := by
  obtain ⟨f, fd, F, g, b⟩ := S
  exact ⟨f, fd, h f fd F, g, F.kp, b⟩
/-- a def, by its body -/
theorem Src.by (S : Src K mg x st ps) (sc : FnScope N ps (defScope st)) (len : ∀ vs H Q E, sp vs H Q E → vs.length = ps.length)
    (hbody : ∀ (f : Addr) (cdv : Value) (A : Around) (outer : List Env) (s : Shared) (H : Hp) (vs : List V) (Q : VK) (E : XK),
      Room k (A.deeper (PyProof.Rows.envOfC x (defScope st) s.heap.objs.size f cdv)) → A.guards = some [] → sp vs H Q E →
      ∃ t, PSs (cxOf CX0 P w K mg base N x (defScope st) f cdv A outer s H E).nox (defBody st) t ∧ t { nx := fun _ H' => Q .non H', rt := Q } (start N vs) H) : Df P w K mg base (k + 1) x ps sp :=
  S.ok fun f fd F => okG F sc len (hbody f)
theorem Df.imp (D : Df P w K mg base k x ps sp) (h : ∀ vs H Q E, sp' vs H Q E → sp vs H Q E) : Df P w K mg base k x ps sp' := by
  obtain ⟨f, fd, F, r⟩ := D
  exact ⟨f, fd, F.imp h, r⟩
theorem Df.mono (D : Df P w K mg base j x ps sp) (h : j ≤ k) : Df P w K mg base k x ps sp := by
  obtain ⟨f, fd, F, r⟩ := D
  exact ⟨f, fd, F.mono h, r⟩
theorem Df.retell (D : Df P w K mg base k x ps sp) (hl : ∀ vs H Q E, sp' vs H Q E → vs.length = ps.length)
    (h : ∀ vs H Q E hp, sp' vs H Q E → HOk P w H hp → ∃ H1, Alike H H1 ∧ HOk P w H1 hp ∧ sp vs H1 (fun v H2 => ∀ hp', HOk P w H2 hp' → ∃ H3, Alike H2 H3 ∧ HOk P w H3 hp' ∧ Q v H3) E) : Df P w K mg base k x ps sp' := by
  obtain ⟨f, fd, F, r⟩ := D
  exact ⟨f, fd, Lay.retell F hl h, r⟩
end
/-- f(..), f(k = e), no exception leaves f -/
def tG (sp : Sp) (t : TA) : TE := fun σ H Q => t σ H fun vs H1 => sp vs H1 Q E0
section
variable {X : Cx} {x nm : Str} {ps : List Str} {sp : Sp} {k : Nat} {e : Expr} {es : List Expr} {t : TA} {te : TE} {p pos kpos : Pos}
theorem pe_own (D : Df X.prog X.w X.K X.mg X.base k x ps sp) (hr : Room k X.A) (hgd : X.A.guards = some []) (ht : PA X (e :: es) t) (hg : Gl X x := by rfl) (hdb : (x == ("__debug__" : Str)) = false := by decide) (hs : starEach (e :: es) X.env = (false, eval e X.env) :: starEach es X.env := by rfl) (hpl : (backTo pos (starEach es X.env)).any (·.1) = false := by rfl) :
    PE X (.Call (.Name x p) (e :: es) [] pos) (tG sp t) := by
  obtain ⟨f, fd, F, g, kp, b, _⟩ := D
  refine ⟨fun pins s σ H Q I h => ?_⟩
  refine wpAny_Call_Name_kw (ld_glob I hg g ?_ hdb)
  refine PySem.W.callWith_K (h₀ := X.base) I.ok.mod.kin kp (thn (ht.run pos pins s σ H _ I h) fun us s1 ⟨vs, H1, I1, r, q⟩ => ⟨I1.kIn, ?_⟩) hs hpl
  have hl : (us ++ []).length = ps.length := by rw [List.append_nil, ← r.length]; exact F.len _ _ _ _ q
  have b1 := b s1 us I1.kIn hl
  rw [List.append_nil] at b1
  exact wpAny_call (run_G F hr hgd I1 b1 r q)
theorem pe_own0 (D : Df X.prog X.w X.K X.mg X.base k x ps sp) (hr : Room k X.A) (hgd : X.A.guards = some []) (hg : Gl X x := by rfl) (hdb : (x == ("__debug__" : Str)) = false := by decide) : PE X (.Call (.Name x p) [] [] pos) (tG sp tNil) := by
  obtain ⟨f, fd, F, g, kp, b, _⟩ := D
  refine ⟨fun pins s σ H Q I h => ?_⟩
  refine wpAny_Call_Name_kw (ld_glob I hg g ?_ hdb)
  refine PySem.W.callWith_K0 I.kIn kp ?_
  have b1 := b s [] I.kIn (F.len _ _ _ _ h)
  exact wpAny_call (run_G F hr hgd I b1 .nil h)
theorem pe_own1K {q : Str} {kws : List Keyword} {tk : TA} (D : Df X.prog X.w X.K X.mg X.base k x [q] sp) (hr : Room k X.A) (hgd : X.A.guards = some []) (hkw : PK X kws tk) (hg : Gl X x := by rfl) (hdb : (x == ("__debug__" : Str)) = false := by decide)
    (hall : (backToKw pos (keywordEach kws X.env)).all (·.1.isSome) = true := by rfl) (hks : (backToKw pos (keywordEach kws X.env)).filterMap (·.1) = [q] := by rfl)
    (hpl : ((backTo pos (starEach [] X.env)).any (·.1) || (backToKw pos (keywordEach kws X.env)).any (·.1.isNone)) = false := by rfl) : PE X (.Call (.Name x p) [] kws pos) (tG sp tk) := by
  obtain ⟨f, fd, F, g, kp, _, b⟩ := D
  refine ⟨fun pins s σ H Q I h => ?_⟩
  refine wpAny_Call_Name_kw (ld_glob I hg g ?_ hdb)
  refine PySem.W.callWith_KW0 (h₀ := X.base) I.ok.mod.kin kp hall ?_ hpl
  refine thn (hkw.run pos pins s σ H _ I h) fun ws s2 ⟨zs, H2, I2, rz, q2⟩ => ⟨I2.kIn, ?_⟩
  rw [hks]
  have hl : zs.length = 1 := F.len _ _ _ _ q2
  cases rz with
  | nil => cases hl
  | @cons z u zr ur h1 rest =>
    cases rest with
    | cons _ _ => cases hl
    | nil =>
      have b1 : BindsTo s2 fd ⟨[], [(q, u)]⟩ ([q].zip [u]) := .of_eq (b q u rfl)
      exact wpAny_call (run_G (us' := [u]) (vs' := [z]) F hr hgd I2 b1 (.cons h1 .nil) q2)
end

/-! ### the pot: a list of two ints, whatever they are -/
def PotF (q : Addr) (h : Heap) : Prop := ∃ (a b : Int) (its : List Value) (n : Nat), 0 ≤ b ∧ b < 2147483648 ∧ Vals [.int a, .int b] its ∧ h.get? q = some { cls := .type "list", data := .seq its.toArray n }
def PotO (q : Addr) : HO := .ext (PotF q)
theorem pot_ok {P : Program} {w : World} {H : Hp} {h : Heap} {q : Addr} {a b : Int} (b0 : 0 ≤ b) (b1 : b < 2147483648) (x : ObjOk P w H h q (.lst [.int a, .int b])) (H' : Hp) : ObjOk P w H' h q (PotO q) := by
  obtain ⟨_, its, n, v, e⟩ := x
  exact ⟨⟨a, b, its, n, b0, b1, v, e⟩, ⟨_, e⟩, fun h1 h2 ⟨a, b, its, n, c0, c1, v, e⟩ k => ⟨a, b, its, n, c0, c1, v, k _ e⟩⟩
theorem pot_get {P : Program} {w : World} {H : Hp} {h : Heap} {q : Addr} (x : HOk P w H h) (e : H q = some (PotO q)) : ∃ a b : Int, 0 ≤ b ∧ b < 2147483648 ∧ ∀ H', ObjOk P w H' h q (.lst [.int a, .int b]) := by
  obtain ⟨⟨a, b, its, n, b0, b1, v, e⟩, _⟩ := x q _ e
  exact ⟨a, b, b0, b1, fun H' => ⟨by show 2 ≤ sizeLine; decide, its, n, v, e⟩⟩

/-- the raw promises: of the def that draws, of the def that makes a pot -/
def spDraw0 : Sp := fun vs H Q _ => ∃ (p : Addr) (m a b : Int), vs = [.ref p, .int m] ∧ H p = some (.lst [.int a, .int b]) ∧ 0 ≤ b ∧ b < 2147483648 ∧ 0 < m ∧ m < 2 ^ 200 ∧
  ∀ d a' b' H', 0 ≤ d → d < m → 0 ≤ b' → b' < 2147483648 → (∀ q o, q ≠ p → H q = some o → H' q = some o) → H' p = some (.lst [.int a', .int b']) → Q (.int d) H'
def spDraw : Sp := fun vs H Q _ => ∃ (p : Addr) (m : Int), vs = [.ref p, .int m] ∧ H p = some (PotO p) ∧ 0 < m ∧ m < 2 ^ 200 ∧
  ∀ d H', 0 ≤ d → d < m → Same H H' → Q (.int d) H'
theorem draw_up {P : Program} {w : World} {K : PySem.W.Frag} {mg : Str → Option Value} {base : Heap} {x : Str} {ps : List Str} {k : Nat} (D : Df P w K mg base k x ps spDraw0) (hl : ps.length = 2) : Df P w K mg base k x ps spDraw := by
  refine D.retell (fun vs H Q E h => ?_) fun vs H Q E hp h ok => ?_
  · obtain ⟨p, m, rfl, _⟩ := h; exact hl.symm
  · obtain ⟨p, m, rfl, e, m0, m1, k⟩ := h
    obtain ⟨a, b, b0, b1, o⟩ := pot_get ok e
    refine ⟨upd H p (.lst [.int a, .int b]), .upd e rfl rfl, hok_retell ok e rfl (o _), p, m, a, b, rfl, upd_same, b0, b1, m0, m1, fun d a' b' H' d0 d1 c0 c1 ks e' hp' ok' => ?_⟩
    refine ⟨upd H' p (PotO p), .upd e' rfl rfl, hok_retell ok' e' rfl (pot_ok c0 c1 (ok' _ _ e') _), k d _ d0 d1 fun q u hq => ?_⟩
    by_cases z : q = p
    · subst z; rw [e] at hq; cases hq; exact upd_same
    · rw [upd_ne z]; exact ks q u z (by rw [upd_ne z]; exact hq)
def spPot0 (K : PySem.W.Frag) : Sp := fun vs H Q _ => ∃ (s : Addr) (ns : List Int) (i : Nat), vs = [.ref s, .int i] ∧ SqL K H s (ns.map V.int) ∧ ns.length ≤ 63 ∧ i < 1000 ∧
  ∀ a b p H', 0 ≤ b → b < 2147483648 → H p = none → Same H H' → H' p = some (.lst [.int a, .int b]) → Q (.ref p) H'
def spPot (K : PySem.W.Frag) : Sp := fun vs H Q _ => ∃ (s : Addr) (ns : List Int) (i : Nat), vs = [.ref s, .int i] ∧ SqL K H s (ns.map V.int) ∧ ns.length ≤ 63 ∧ i < 1000 ∧
  ∀ p H', H p = none → Same H H' → H' p = some (PotO p) → Q (.ref p) H'
theorem pot_up {P : Program} {w : World} {K : PySem.W.Frag} {mg : Str → Option Value} {base : Heap} {x : Str} {ps : List Str} {k : Nat} (D : Df P w K mg base k x ps (spPot0 K)) (hl : ps.length = 2) : Df P w K mg base k x ps (spPot K) := by
  refine D.retell (fun vs H Q E h => ?_) fun vs H Q E hp h ok => ?_
  · obtain ⟨s, ns, i, rfl, _⟩ := h; exact hl.symm
  · obtain ⟨s, ns, i, rfl, hs, l, i1, k⟩ := h
    refine ⟨H, .refl, ok, s, ns, i, rfl, hs, l, i1, fun a b p H' b0 b1 np sm e hp' ok' => ?_⟩
    refine ⟨upd H' p (PotO p), .upd e rfl rfl, hok_retell ok' e rfl (pot_ok b0 b1 (ok' _ _ e) _), k p _ np (fun q u hq => ?_) upd_same⟩
    rw [upd_ne (ne_of_none hq np)]
    exact sm q u hq
theorem pe_con1 {X : Cx} {x : Str} {v : V} {pos : Pos} (h : ∃ u, X.mg x = some u ∧ RelV v u) (hg : Gl X x := by rfl) (hdb : (x == ("__debug__" : Str)) = false := by decide) : PE X (.Name x pos) (tC v) := by
  obtain ⟨u, e, r⟩ := h
  exact pe_glob hg e r (hd := hdb)
theorem Same.new {H : Hp} {p : Addr} {o : HO} (h : H p = none) : Same H (upd H p o) := fun a u e => by
  rw [upd_ne (ne_of_none e h)]; exact e
theorem Same.mut {H H' : Hp} {p : Addr} {o : HO} (e : Same H H') (h : H p = none) : Same H (upd H' p o) := fun a u ha => by
  rw [upd_ne (ne_of_none ha h)]; exact e a u ha
theorem same_t {K : PySem.W.Frag} {H H' : Hp} {a : Addr} {xs : List V} (e : Same H H') (h : SqT K H a xs) : SqT K H' a xs := by
  rcases h with (h | ⟨o, h⟩) | h
  · exact .inl (.inl (e _ _ h))
  · exact .inl (.inr ⟨o, e _ _ h⟩)
  · exact .inr h
theorem divs_ok {a m : Int} (m0 : 0 < m) (h : m < 2 ^ 200) : Builtin.divisionGoesByPylong a m = false := by
  have e : m.natAbs < 2 ^ 200 := by omega
  have e2 : m.natAbs.log2 < 200 := (Nat.log2_lt (by omega)).mpr e
  show (decide ((if m == 0 then 0 else m.natAbs.log2 / 30 + 1) > 300) && _) = false
  rw [if_neg (show ¬ (m == 0) = true by simpa using (show m ≠ 0 by omega))]
  rw [decide_eq_false (by omega)]
  rfl
end Lay

set_option Elab.async false
set_option linter.all false
set_option maxRecDepth 100000
set_option maxHeartbeats 4000000
namespace PySem
namespace Exv
open Builtin Builtin.ObjectAttr
section
variable {prog : Program} {w : World} {A : Around} {E : Value → Shared → Prop} {R : Result → Shared → Prop}
variable {h : Heap} {g : Array GenState} {d : Drawn} {t : Nat} {os : OsState}
variable {nm q : Str} {C N : Addr} {bs bm bmB : List Value} {hdct : Bool} {sn : List Str} {sub : List Value}
variable {ab : Bool} {col : Option Bool} {dd : Option Addr} {k0 k1 k2 k3 k5 : Option Value} {B newId initId : String}

theorem chk_kw {M : Model} (F : ExcBaseFacts B newId initId bmB) (hT : ∀ X : String, bm.contains (.type X) = bmB.contains (.type X))
    {rest : List Value} {kw : List (Str × Value)} {Q : Unit → Shared → Prop}
    (hC : h.get? C = some (excClassObj nm q C N bs bm hdct sn sub ab col dd k0 k1 k2 k3 k5 newId))
    (hq : Q () ⟨h, g, d, t, os⟩) : wpAny M A (checkBuiltinCall newId ⟨.ref C :: rest, kw⟩) Q E ⟨h, g, d, t, os⟩ := by
  have hcont : (Value.ref C :: bm).contains (.type B) = true := by rw [List.contains_cons, hT, F.hasB, Bool.or_true]
  have hstar := F.noStar
  simp only [checkBuiltinCall, F.newKind, F.newSplit, F.newRow]
  repeat (first
    | refine wpAny_loadPart_at hC ?_
    | (refine wpAny_isSubtype_exc hC ?_; rw [hcont])
    | refine wpAny_staticBase_exc hC ?_
    | refine wpAny_madeBy_exc hC ?_
    | simp only [bne_self_eq_false, Bool.false_eq_true, if_false]
    | wp_step)
  exact hq

theorem new_kw (F : ExcBaseFacts B newId initId bmB) (hT : ∀ X : String, bm.contains (.type X) = bmB.contains (.type X))
    {rest : List Value} {kw : List (Str × Value)}
    (hC : h.get? C = some (excClassObj nm q C N bs bm hdct sn sub ab col dd k0 k1 k2 k3 k5 newId))
    (hq : R (.ok (.ret (.ref (h.objs.size + 1))))
      ⟨(h.push (W.kdv_tup rest)).push (HandSPX.excO C h.objs.size), g, d, t, os⟩)
    (hrest : rest.length ≤ sizeLine) :
    codeAny (model prog w) A (.builtin newId ⟨.ref C :: rest, kw⟩) R ⟨h, g, d, t, os⟩ := by
  have z1 := F.ends
  have z2 : (Value.ref C :: bm).contains (.type B) = true := by rw [List.contains_cons, hT, F.hasB, Bool.or_true]
  have z3 : (Value.ref C :: bm).contains (.type "AttributeError") = false := by
    rw [List.contains_cons, hT, F.noAttr]
    rfl
  have z4 : (Value.ref C :: bm).contains (.type "NameError") = false := by
    rw [List.contains_cons, hT, F.noName]
    rfl
  refine codeAny_builtinAt F.entry ?_
  unfold Builtin.«BaseException.__new__»
  refine wpAt_bind ?_
  show wpAt _ _ _ (stack >>= _) _ _ _
  refine wpAt_bind (wpAt_stack fun p below => wpAt_of_wpAny ?_)
  wp_walk
  refine wpAt_of_wpAny ?_
  rw [F.owner]
  repeat (first
    | with_reducible refine wpAny_madeHere_exc F.canon hC ?_
    | with_reducible refine wpAny_loadPart_at hC ?_
    | (with_reducible refine wpAny_isSubtype_exc hC ?_; first | rw [z2] | rw [z3] | rw [z4])
    | wp_step)
  show R _ _
  rw [Heap.size_push]
  exact hq

theorem tcall_kw (F : ExcBaseFacts B newId initId bmB) (hT : ∀ X : String, bm.contains (.type X) = bmB.contains (.type X))
    {rest : List Value} {kw : List (Str × Value)} {fI : Addr} {Q : Fin → Shared → Prop}
    (hC : h.get? C = some (excClassObj nm q C N bs bm hdct sn sub ab col dd k0 k1 k2 k3 k5 newId))
    (hi : W.Looks (model prog w) h (typeLookup (.ref C) "__init__") (some (.ref fI)))
    (hb : ∀ self, W.Looks (model prog w) h (bindSpecial (.ref fI) self) (.ref fI, [self])) (hrest : rest.length ≤ sizeLine)
    (hq : codeAny (model prog w) A (.call (.ref fI) ⟨.ref (h.objs.size + 1) :: rest, kw⟩)
      (fun r s' => match r with
        | .ok (.ret v) => v = .none ∧ Q (.done (.ret (.ref (h.objs.size + 1)))) s'
        | .ok _ => False
        | .error e => E e s')
      ⟨(h.push (W.kdv_tup rest)).push (HandSPX.excO C h.objs.size), g, d, t, os⟩) :
    wpAny (model prog w) A (Builtin.«type.__call__» ⟨.ref C :: rest, kw⟩) Q E ⟨h, g, d, t, os⟩ := by
  repeat (first
    | with_reducible refine wpAny_loadPart_at hC ?_
    | with_reducible refine wpAny_madeBy_exc hC ?_
    | wp_step)
  refine codeAny_call_builtin_code (Code.quiet_builtin _ F.quiet) (chk_kw F hT hC ?_)
  refine new_kw F hT hC ?_ hrest
  show wpAny _ _ _ _ _ _
  have kk : ∀ b o, h.get? b = some o → ((h.push (W.kdv_tup rest)).push (HandSPX.excO C h.objs.size)).get? b = some o :=
    fun b o e => Heap.get?_push_of_some _ (Heap.get?_push_of_some _ e)
  have c1 := kk _ _ hC
  have c2 : ((h.push (W.kdv_tup rest)).push (HandSPX.excO C h.objs.size)).get? (h.objs.size + 1) = some (HandSPX.excO C h.objs.size) := by heap_get
  have c3 : (Value.ref C :: bm).contains (.ref C) = true := by simp
  have i1 := hi.keeps kk
  have b1 := (hb (.ref (h.objs.size + 1))).keeps kk
  unfold isInstance
  repeat (first
    | with_reducible refine wpAny_loadPart_at c2 ?_
    | (with_reducible refine wpAny_isSubtype_exc c1 ?_; rw [c3])
    | wp_step)
  show wpAny _ _ (typeLookup (.ref C) _) _ _ _
  refine i1.at ?_
  refine wpAny_holding (wpAny_bind (b1.at ?_))
  refine wpAny_bind (wpAny_call (codeAny_mono hq fun r s' z => ?_))
  rcases r with e | (v | _ | _ | _) <;> first | exact z | exact z.elim | skip
  obtain ⟨rfl, z⟩ := z
  first
    | exact wpAny_pure (wpAny_pure z)
    | (wp_walk; exact z)

theorem chkt_kw {M : Model} {rest : List Value} {kw : List (Str × Value)} {Q : Unit → Shared → Prop}
    (hC : h.get? C = some (excClassObj nm q C N bs bm hdct sn sub ab col dd k0 k1 k2 k3 k5 newId))
    (hq : Q () ⟨h, g, d, t, os⟩) : wpAny M A (checkBuiltinCall "type.__call__" ⟨.ref C :: rest, kw⟩) Q E ⟨h, g, d, t, os⟩ := by
  have f3 := tc_sub
  have hT : (⟨h, g, d, t, os⟩ : Shared).TypeIs (.ref C) "type" := ⟨_, hC, rfl⟩
  simp only [checkBuiltinCall, tc_kind, tc_split]
  repeat (any_goals (first
    | assumption
    | with_reducible refine wpAny_loadPart_at hC ?_
    | with_reducible refine wpAny_onRaise ?_
    | with_reducible refine wpAny_map ?_
    | wp_step))

theorem call_kw (F : ExcBaseFacts B newId initId bmB) (hT : ∀ X : String, bm.contains (.type X) = bmB.contains (.type X))
    {rest : List Value} {kw : List (Str × Value)} {fI : Addr}
    (hC : h.get? C = some (excClassObj nm q C N bs bm hdct sn sub ab col dd k0 k1 k2 k3 k5 newId))
    (hi : W.Looks (model prog w) h (typeLookup (.ref C) "__init__") (some (.ref fI)))
    (hb : ∀ self, W.Looks (model prog w) h (bindSpecial (.ref fI) self) (.ref fI, [self])) (hrest : rest.length ≤ sizeLine)
    (hq : codeAny (model prog w) (A.under (.builtin "type.__call__" ⟨.ref C :: rest, kw⟩))
      (.call (.ref fI) ⟨.ref (h.objs.size + 1) :: rest, kw⟩) (W.InitBack (h.objs.size + 1) R)
      ⟨(h.push (W.kdv_tup rest)).push (HandSPX.excO C h.objs.size), g, d, t, os⟩) :
    codeAny (model prog w) A (.call (.ref C) ⟨rest, kw⟩) R ⟨h, g, d, t, os⟩ := by
  have f1 := tc_lookup
  have f2 := tc_bind (.ref C)
  have hTy : (⟨h, g, d, t, os⟩ : Shared).TypeIs (.ref C) "type" := ⟨_, hC, rfl⟩
  refine codeAny_of_tree ?_
  show wpAny _ _ (callAny (.ref C) _) _ _ _
  repeat (any_goals (first
    | assumption
    | with_reducible refine wpAny_loadPart_at hC ?_
    | wp_step))
  refine ⟨rfl, ?_⟩
  refine codeAny_call_builtin_at (Code.quiet_builtin _ (by decide +kernel)) entry_typeCall (chkt_kw hC (tcall_kw F hT hC hi hb hrest ?_))
  refine codeAny_mono hq fun r s' z => ?_
  rcases r with e | (v | _ | _ | _) <;> exact z
end
end Exv
end PySem

set_option Elab.async false
set_option linter.all false
set_option maxRecDepth 100000
set_option maxHeartbeats 4000000
namespace PySem
namespace Exv
open Builtin Builtin.ObjectAttr
section
variable {prog : Program} {w : World} {A : Around} {E : Value → Shared → Prop} {R : Result → Shared → Prop}
variable {hp : Heap} {g : Array GenState} {d : Drawn} {t : Nat} {os : OsState} {B : String} {bmB : List Value}

/-- the ends that both stores share: what comes ahead of the store into the own dict -/
theorem osa_head {K : W.Frag} {name : Str} {tk : Tok} {v : Value} {x C : Addr} {ox : Obj} {od : Option Obj} {cd : ClassData} {bm : List Value}
    (SF : StoreFacts B bmB "object.__setattr__" "object") (X : K.In hp) (I : W.InstAt hp x ox C od) (hcd : W.clsIn K C = some cd)
    (hm : cd.mro = .ref C :: bm) (ht : W.excTail bmB bm = true) (ha : W.findIn K (.ref C) name = some none)
    (hq : wpAny (model prog w) A.in1 (storeInOwnDict (.ref x) (.ref C) (.str name tk) name v false)
      (fun fin s' => match fin with | .done f => R (.ok f) s' | .again c' => c'.quiet = true ∧ codeAny (model prog w) A c' R s')
      (fun e s' => R (.error e) s') ⟨hp, g, d, t, os⟩) :
    codeAny (model prog w) A (.call (.builtin "object.__setattr__") ⟨[.ref x, .str name tk, v], []⟩) R ⟨hp, g, d, t, os⟩ := by
  have ob : cd.mro.contains (.type "object") = true := by
    rw [hm, List.contains_cons, W.excTail_contains "object" _ ht, SF.hasOwner, Bool.or_true]
  have ne : cd.mro.isEmpty = false := by rw [hm]; rfl
  have sub : W.Looks (model prog w) hp (isInstance (.ref x) (.type "object")) true :=
    I.type.andThen (W.looks_mroIn X (by unfold W.mroIn; rw [hcd, Option.bind_some, if_neg (by rw [ne]; decide), ob]))
  refine codeAny_call_builtin SF.slot.plain SF.entry
    (@W.check_slot (model prog w) _ _ ⟨hp, g, d, t, os⟩ "object.__setattr__" "object" "__setattr__" (.ref x) [.str name tk, v] [] _
      SF.kind SF.split sub (SF.args (.ref x) (.str name tk) v) ?_)
  have l1 : W.Looks (model prog w) hp (mroOf (.ref C)) cd.mro := (W.looks_clsIn X hcd).andThen .now
  have l3 : W.Looks (model prog w) hp (storeTaker? none) none := .now
  rw [W.osa_eq, refuse_eq]
  refine wpAny_bind (wpAny_bind (I.type.at (wpAny_bind (l1.at ?_))))
  rw [hm, refuseLoop_ref, W.excTail_pass _ (SF.passes _) _ ht]
  refine wpAny_pure (wpAny_bind (I.type.at (wpAny_bind ((W.looks_findIn X ha).at (wpAny_bind (l3.at ?_))))))
  exact hq

/-- the first field of an exception -/
theorem osa_new {K : W.Frag} {name : Str} {tk : Tok} {v : Value} {x C : Addr} {fv : Array Value} {cd : ClassData} {bm : List Value}
    (SF : StoreFacts B bmB "object.__setattr__" "object") (X : K.In hp)
    (hx : hp.get? x = some { cls := .ref C, data := .fields fv }) (hcd : W.clsIn K C = some cd)
    (hm : cd.mro = .ref C :: bm) (ht : W.excTail bmB bm = true) (hh : cd.hasDict = true) (ha : W.findIn K (.ref C) name = some none)
    (hq : ∀ h' tk' dx, (∀ b o, b ≠ x → hp.get? b = some o → h'.get? b = some o) → hp.objs.size ≤ dx → dx ≠ x →
      h'.get? x = some { cls := .ref C, dict := some dx, data := .fields fv } →
      h'.Ns1 dx (fun y => if y = name then some v else none) → R (.ok (.ret .none)) ⟨h', g, d, tk', os⟩) :
    codeAny (model prog w) A (.call (.builtin "object.__setattr__") ⟨[.ref x, .str name tk, v], []⟩) R ⟨hp, g, d, t, os⟩ := by
  have I : W.InstAt hp x { cls := .ref C, data := .fields fv } C none := ⟨hx, rfl, rfl, trivial⟩
  have hxs : x ≠ hp.objs.size := Nat.ne_of_lt (Heap.lt_size hx)
  have hcls : W.Looks (model prog w) hp (classData C) cd := W.looks_clsIn X hcd
  refine osa_head SF X I hcd hm ht ha ?_
  obtain ⟨nm, bs, mro, ns, qn, hd, sn, sb, ab, col, del⟩ := cd
  dsimp only at hh
  subst hh
  unfold storeInOwnDict ownDictForStores
  repeat (first
    | with_reducible refine HandSPX.store_in_new ?_ ?_
    | with_reducible refine wpAny_loadPart_at hx ?_
    | with_reducible refine hcls.at ?_
    | wp_step)
  · exact ⟨_, #[], _, (Heap.get?_update_ne _ _ _ _ hxs.symm).trans (Heap.get?_push_at rfl rfl), rfl, fun e he => absurd he (by simp), fun _ => rfl⟩
  · intro h' tk' hn' hs
    have h1 : (hp.push { cls := .type "dict", data := .dict #[] }).get? x = some { cls := .ref C, data := .fields fv } := by
      exact Heap.get?_push_of_some _ hx
    refine hq h' tk' hp.objs.size (fun b o hb ho => ?_) (Nat.le_refl _) hxs.symm ?_ hn'
    · have e1 := hs.2 b (Nat.ne_of_lt (Heap.lt_size ho))
      exact e1.trans ((Heap.get?_update_ne _ _ _ _ hb).trans (Heap.get?_push_of_some _ ho))
    · have e1 := hs.2 x hxs
      exact e1.trans (Heap.get?_update_self _ h1 rfl)

/-- a further field -/
theorem osa_more {K : W.Frag} {name : Str} {tk : Tok} {v : Value} {x C dx : Addr} {fv : Array Value} {cd : ClassData} {bm : List Value}
    {m0 : Str → Option Value} {nl : List Str} (SF : StoreFacts B bmB "object.__setattr__" "object") (X : K.In hp)
    (hx : hp.get? x = some { cls := .ref C, dict := some dx, data := .fields fv }) (hns : hp.Ns1 dx m0) (hw : Within m0 nl) (hz : nl.length ≤ 1000)
    (hcd : W.clsIn K C = some cd) (hm : cd.mro = .ref C :: bm) (ht : W.excTail bmB bm = true) (hh : cd.hasDict = true) (ha : W.findIn K (.ref C) name = some none)
    (hq : ∀ h' tk', (∀ b o, b ≠ dx → hp.get? b = some o → h'.get? b = some o) →
      h'.Ns1 dx (fun y => if y = name then some v else m0 y) → R (.ok (.ret .none)) ⟨h', g, d, tk', os⟩) :
    codeAny (model prog w) A (.call (.builtin "object.__setattr__") ⟨[.ref x, .str name tk, v], []⟩) R ⟨hp, g, d, t, os⟩ := by
  obtain ⟨oD, esD, epD, hoD, hdD, _⟩ := hns.count hw
  have I : W.InstAt hp x { cls := .ref C, dict := some dx, data := .fields fv } C (some oD) := ⟨hx, rfl, rfl, hoD⟩
  have hcls : W.Looks (model prog w) hp (classData C) cd := W.looks_clsIn X hcd
  refine osa_head SF X I hcd hm ht ha ?_
  obtain ⟨nm, bs, mro, ns, qn, hd, sn, sb, ab, col, del⟩ := cd
  dsimp only at hh
  subst hh
  unfold storeInOwnDict ownDictForStores
  repeat (first
    | with_reducible refine OEX.store_in_old hns hw hz ?_
    | with_reducible refine wpAny_loadPart_at hx ?_
    | with_reducible refine hcls.at ?_
    | wp_step)
  intro h' tk' hn' hs
  exact hq h' tk' (fun b o hb ho => (hs.2 b hb).trans ho) hn'
end
end Exv
end PySem

namespace Exv
open PySem L2 Lay PyProof.Rows
/-- a built-in base class of errors, as the library tells it -/
structure Bs (B newId initId : String) (bmB : List Value) : Prop where
  fb : ExcBaseFacts B newId initId bmB
  sf : StoreFacts B bmB "object.__setattr__" "object"
theorem bsV : Bs "ValueError" "ValueError.__new__" "ValueError.__init__" [.type "ValueError", .type "Exception", .type "BaseException", .type "object"] := ⟨F.excBase_ValueError, F.store_ValueError⟩
theorem bsL : Bs "LookupError" "LookupError.__new__" "LookupError.__init__" [.type "LookupError", .type "Exception", .type "BaseException", .type "object"] := ⟨F.excBase_LookupError, F.store_LookupError⟩
theorem bsR : Bs "RuntimeError" "RuntimeError.__new__" "RuntimeError.__init__" [.type "RuntimeError", .type "Exception", .type "BaseException", .type "object"] := ⟨F.excBase_RuntimeError, F.store_RuntimeError⟩
theorem bsA : Bs "ArithmeticError" "ArithmeticError.__new__" "ArithmeticError.__init__" [.type "ArithmeticError", .type "Exception", .type "BaseException", .type "object"] := ⟨F.excBase_ArithmeticError, F.store_ArithmeticError⟩

/-- an error of the class at C: its own dict (none as yet), the tuple of what it was made of -/
def exo (e C : Addr) (d : Option Addr) (t : Addr) : HO :=
  .ext fun h => h.get? e = some ({ cls := .ref C, dict := d, data := .fields #[.ref t, .none, .none, .none, .bool false, .none] } : Obj)
theorem exo_ok {P : Program} {w : World} {H : Hp} {h : Heap} {e C t : Addr} {d : Option Addr}
    (he : h.get? e = some ({ cls := .ref C, dict := d, data := .fields #[.ref t, .none, .none, .none, .bool false, .none] } : Obj)) : ObjOk P w H h e (exo e C d t) :=
  ⟨he, ⟨_, he⟩, fun _ _ _ k => k _ ‹_›⟩
theorem exo_at {P : Program} {w : World} {H : Hp} {h : Heap} {e C t : Addr} {d : Option Addr} (ok : HOk P w H h) (x : H e = some (exo e C d t)) :
    h.get? e = some ({ cls := .ref C, dict := d, data := .fields #[.ref t, .none, .none, .none, .bool false, .none] } : Obj) := by
  have y : ObjOk P w H h e (.ext fun h => h.get? e = some ({ cls := .ref C, dict := d, data := .fields #[.ref t, .none, .none, .none, .bool false, .none] } : Obj)) := ok e _ x
  exact y.1
theorem exo_plain {e C t : Addr} {d : Option Addr} : plainO (exo e C d t) = true := rfl
theorem exd_plain {e : Addr} {fs : List (Str × V)} : plainO (exd e fs) = true := rfl
/-- what the written part says of an error's class -/
structure Cl (K : PySem.W.Frag) (C : Addr) (newId : String) (bmB : List Value) : Prop where
  cls : ∃ nm q N bs bm sn sub ab col dd k0 k1 k2 k3 k5, K.lookup C = some (excClassObj nm q C N bs bm true sn sub ab col dd k0 k1 k2 k3 k5 newId) ∧ PySem.W.excTail bmB bm = true
  sa : PySem.W.findIn K (.ref C) "__setattr__" = some (some (.builtin "object.__setattr__"))
  ga : PySem.W.findIn K (.ref C) "__getattribute__" = some (some (.builtin "BaseException.__getattribute__"))
  gg : PySem.W.findIn K (.ref C) "__getattr__" = some none
  exC : PySem.W.subIn K (.ref C) (.type "BaseException") = some true
  tyC : PySem.W.typeIn K (.ref C) = some (.type "type")
  kC : PySem.W.keepIn K (.ref C) = true
  hd : PySem.W.hasDictIn K C = true
  ha : PySem.W.findIn K (.ref C) "__class__" = some (some (.builtin "object.__class__"))
  hm : PySem.W.mroIn K C (.type "object") = some true
section
variable {X : Cx} {pins : List (Addr × Obj)} {σ : L2.St} {H : Hp} {s : Shared} {a C dx t1 : Addr} {f : Str} {y : V} {u : Value} {fs : List (Str × V)}
variable {Q : Unit → Shared → Prop} {E : Value → Shared → Prop} {A : Around} {B newId initId : String} {bmB : List Value}
theorem plain_ne_own {o : HO} (p : plainO o = true) {x : Addr} (e : H a = some o) {c : Addr} (z : H c = some (.own x)) : c ≠ a := fun q => by
  subst q; rw [e] at z; cases z; cases p
theorem plain_ne_tup {o : HO} (p : plainO o = true) {xs : List V} (e : H a = some o) {c : Addr} (z : H c = some (.tup xs)) : c ≠ a := fun q => by
  subst q; rw [e] at z; cases z; cases p
theorem plain_ne_frz {o : HO} (p : plainO o = true) {ob : Obj} {v : HO} (e : H a = some o) {c : Addr} (z : H c = some (.frz ob v)) : c ≠ a := fun q => by
  subst q; rw [e] at z; cases z; cases p
theorem plain_ne_tbl {o : HO} (p : plainO o = true) {ps : Array Value} (e : H a = some o) {c : Addr} (z : H c = some (.tbl ps)) : c ≠ a := fun q => by
  subst q; rw [e] at z; cases z; cases p
theorem Cl.cd (T : Cl X.K C newId bmB) : ∃ cd bm, PySem.W.clsIn X.K C = some cd ∧ cd.mro = .ref C :: bm ∧ PySem.W.excTail bmB bm = true ∧ cd.hasDict = true := by
  obtain ⟨nm, q, N, bs, bm, sn, sub, ab, col, dd, k0, k1, k2, k3, k5, hC, hbm⟩ := T.cls
  refine ⟨{ name := nm, bases := bs, mro := .ref C :: bm, ns := N, qualname := q, hasDict := true, slotNames := sn, subclasses := sub, abstract := ab, collection := col, hasDel := false }, bm, ?_, rfl, hbm, rfl⟩
  unfold PySem.W.clsIn
  rw [hC] <;> rfl
/-- self.f = y, the first one -/
theorem st_new (b : Bs B newId initId bmB) (T : Cl X.K C newId bmB) (I : Inv X pins σ H s) (e : H a = some (exo a C none t1)) (hno : PySem.W.findIn X.K (.ref C) f = some none) (ry : RelV y u)
    (h : ∀ dx s', H dx = none → dx ≠ a → Inv X pins σ (upd (upd H dx (exd dx [(f, y)])) a (exo a C (some dx) t1)) s' → Q () s') :
    wpAny (model X.prog X.w) A (setAttr (.ref a) f u) Q E s := by
  obtain ⟨cd, bm, hcl, hm, ht, hh⟩ := T.cd
  have ho := exo_at I.hok e
  obtain ⟨hp, g, d, t, os⟩ := s
  refine PySem.W.set_plain I.kIn (ox := { cls := .ref C, dict := none, data := .fields #[.ref t1, .none, .none, .none, .bool false, .none] }) (od := none) ⟨ho, rfl, rfl, trivial⟩ T.sa ?_
  refine PySem.Exv.osa_new b.sf I.kIn ho hcl hm ht hh hno (fun h' tk' dx k dn dne hx hn => ?_)
  have hnd : H dx = none := I.hok.fresh dn
  have nd : ∀ {b : Addr} {o : Obj}, hp.get? b = some o → b ≠ dx := fun {b o} q => Nat.ne_of_lt (Nat.lt_of_lt_of_le (Heap.lt_size q) dn)
  have na : ∀ {b : Addr}, H b = none → b ≠ a := fun {b} n z => by rw [z, e] at n; cases n
  have P1 := exo_plain (e := a) (C := C) (t := t1) (d := none)
  have U : Un X.fs [] H (upd (upd H dx (exd dx [(f, y)])) a (exo a C (some dx) t1)) hp h' := {
    keep := fun b o q n _ _ => k b o (na n) q
    slot := fun b o q n _ _ => ⟨o.slots, k b o (na n) q⟩
    free := fun b o q n _ => by rw [upd_ne (na n), upd_ne (nd q)]; exact n
    there := fun b o q _ => by
      by_cases hb : b = a
      · exact ⟨_, by rw [hb]; exact hx⟩
      · exact ⟨o, k b o hb q⟩
    tups := fun b xs q => by rw [upd_ne (plain_ne_tup P1 e q), upd_ne (ne_of_none q hnd)]; exact q
    frzs := fun b o v q => by rw [upd_ne (plain_ne_frz P1 e q), upd_ne (ne_of_none q hnd)]; exact q
    tbls := fun b ps q => ⟨#[], by rw [upd_ne (plain_ne_tbl P1 e q), upd_ne (ne_of_none q hnd), q]; simp⟩ }
  refine h dx _ hnd dne (I.un (t' := tk') U fun b o q => ?_)
  by_cases hb : b = a
  · subst hb; rw [upd_same] at q; cases q
    exact exo_ok hx
  · rw [upd_ne hb] at q
    by_cases hd : b = dx
    · subst hd; rw [upd_same] at q; cases q
      exact exd_ok hn (relO_put (fs := []) ry fun g => True.intro)
    · rw [upd_ne hd] at q
      refine (I.hok b o q).stay (fun c v hc z => k c v ?_ z) (fun c hc => ?_) fun c xs hc => ?_
      · rcases hc with hc | hc
        · rw [hc]; exact hb
        · exact plain_ne_own P1 e hc
      · rw [upd_ne (plain_ne_own P1 e hc), upd_ne (ne_of_none hc hnd)]; exact hc
      · rw [upd_ne (plain_ne_tup P1 e hc), upd_ne (ne_of_none hc hnd)]; exact hc
/-- self.f = y, a further one -/
theorem st_old (b : Bs B newId initId bmB) (T : Cl X.K C newId bmB) (I : Inv X pins σ H s) (e : H a = some (exo a C (some dx) t1)) (ed : H dx = some (exd dx fs)) (hl : fs.length ≤ 900)
    (hno : PySem.W.findIn X.K (.ref C) f = some none) (ry : RelV y u) (h : ∀ s', Inv X pins σ (upd H dx (exd dx ((f, y) :: fs))) s' → Q () s') :
    wpAny (model X.prog X.w) A (setAttr (.ref a) f u) Q E s := by
  obtain ⟨cd, bm, hcl, hm, ht, hh⟩ := T.cd
  have ho := exo_at I.hok e
  obtain ⟨mA, hns, rel⟩ := exd_at I.hok ed
  have hw := within_of rel
  obtain ⟨hp, g, d, t, os⟩ := s
  obtain ⟨oD, _, _, hoD, _, _⟩ := hns.count hw
  refine PySem.W.set_plain I.kIn (ox := { cls := .ref C, dict := some dx, data := .fields #[.ref t1, .none, .none, .none, .bool false, .none] }) (od := some oD) ⟨ho, rfl, rfl, hoD⟩ T.sa ?_
  refine PySem.Exv.osa_more b.sf I.kIn ho hns hw (by rw [List.length_map]; omega) hcl hm ht hh hno (fun h' tk' k hn => ?_)
  have hd : ∃ o, h'.get? dx = some o := by
    obtain ⟨o, _, _, e', _⟩ := hn
    exact ⟨o, e'⟩
  exact h _ (I.write (t' := tk') (x := dx) (e := dx) (o := exd dx ((f, y) :: fs)) (by rw [ed]; exact True.intro) (.inl rfl) k hd (exd_ok hn (relO_put ry rel)))
/-- e.f, e an error -/
theorem at_get {expr : Bool} {Q : Value → Shared → Prop} (T : Cl X.K C newId bmB) (I : Inv X pins σ H s) (e : H a = some (exo a C (some dx) t1)) (ed : H dx = some (exd dx fs)) (hf : fs.lookup f = some y)
    (hno : PySem.W.findIn X.K (.ref C) f = some none) (h : ∀ u s', RelV y u → Inv X pins σ H s' → Q u s') : wpAny (model X.prog X.w) A (getAttr (.ref a) f expr) Q E s := by
  have ho := exo_at I.hok e
  obtain ⟨mA, hns, rel⟩ := exd_at I.hok ed
  obtain ⟨od, hod, hl⟩ := lookIn_ns hns
  obtain ⟨u, hu, ru⟩ := RelO.some_of (v := y) (o := mA f) (by rw [← hf]; exact rel f)
  have J : PySem.W.InstAt s.heap a { cls := .ref C, dict := some dx, data := .fields #[.ref t1, .none, .none, .none, .bool false, .none] } C (some od) := ⟨ho, rfl, rfl, hod⟩
  exact HandSPX.exc_get I.kIn J T.ga T.gg T.exC (PySem.W.findObj_own T.hd hno rfl (by rw [hl, hu])) (handed_of ru) (h u _ ru (I.tok _))
end
end Exv

set_option Elab.async false
set_option linter.all false
set_option maxRecDepth 100000
set_option maxHeartbeats 4000000
namespace Exv
open PySem L2 Lay PyProof.Rows
/-- at a stands an error of the class at C with these fields, made of args -/
def IsExc (H : Hp) (a C : Addr) (fs : List (Str × V)) (args : List V) : Prop :=
  ∃ t, H t = some (.tup args) ∧ ((fs = [] ∧ H a = some (exo a C none t)) ∨ ∃ d, H a = some (exo a C (some d) t) ∧ H d = some (exd d fs))
theorem IsExc.same {H H' : Hp} {a C : Addr} {fs : List (Str × V)} {args : List V} (e : L2.Same H H') (h : IsExc H a C fs args) : IsExc H' a C fs args := by
  obtain ⟨t, ht, h⟩ := h
  refine ⟨t, e _ _ ht, ?_⟩
  rcases h with ⟨z, h⟩ | ⟨d, h, hd⟩
  · exact .inl ⟨z, e _ _ h⟩
  · exact .inr ⟨d, e _ _ h, e _ _ hd⟩
/-- what an error's __init__ promises: the fields mk of what it was handed -/
def spI (C : Addr) (n : Nat) (mk : List V → List (Str × V)) : Sp := fun vs H Q _ => ∃ (a t : Addr) (ws : List V), vs = .ref a :: ws ∧ ws.length = n ∧ H a = some (exo a C none t) ∧
  ∀ H', (∀ b o, b ≠ a → H b = some o → H' b = some o) →
    ((mk ws = [] ∧ H' a = some (exo a C none t)) ∨ ∃ d, H' a = some (exo a C (some d) t) ∧ H' d = some (exd d (mk ws))) → Q .non H'
section
variable {X : Cx} {pins : List (Addr × Obj)} {σ : L2.St} {H : Hp} {s : Shared} {C fI : Addr} {B newId initId : String} {bmB : List Value}
variable {k n : Nat} {fd : FuncData} {ps ks : List Str} {mk : List V → List (Str × V)} {g : List Value → List Value → List Value} {gV : List V → List V → List V}
theorem run_mk {Q : VK} {us ws : List Value} {vs zs : List V} {fs : List (Str × V)} (b : Bs B newId initId bmB) (T : Cl X.K C newId bmB)
    (hi : PySem.W.findIn X.K (.ref C) "__init__" = some (some (.ref fI))) (tI : PySem.W.typeIn X.K (.ref fI) = some (.type "function"))
    (F : FnOk X.prog X.w X.K X.mg X.base CX0 k fI fd ps (spI C n mk)) (hr : Room (k + 1) X.A) (hb : KBinds X.K fd ps ks g gV)
    (I : Inv X pins σ H s) (r : Vals vs us) (rz : Vals zs ws) (hz : us.length ≤ sizeLine)
    (hg : ∀ a, ∃ yl, gV (.ref a :: vs) zs = .ref a :: yl ∧ yl.length = n ∧ mk yl = fs)
    (h : ∀ a H2, H a = none → L2.Same H H2 → IsExc H2 a C fs vs → Q (.ref a) H2) :
    wpAny (model X.prog X.w) X.A (call (.ref C) us (ks.zip ws)) (EP X pins σ Q) X.xe s := by
  obtain ⟨nm, q, N, bs, bm, sn, sub, ab, col, dd, k0, k1, k2, k3, k5, hC, hbm⟩ := T.cls
  obtain ⟨hp, gn, dr, tk, os⟩ := s
  have n0 : H hp.objs.size = none := I.hok.fresh (Nat.le_refl _)
  have n1 : H (hp.objs.size + 1) = none := I.hok.fresh (Nat.le_succ _)
  have sz : (hp.push (PySem.W.kdv_tup us)).objs.size = hp.objs.size + 1 := Heap.size_push _ _
  have I1 : Inv X pins σ (upd H hp.objs.size (.tup vs)) ⟨hp.push (PySem.W.kdv_tup us), gn, dr, tk, os⟩ :=
    I.laid (t' := tk) (a := hp.objs.size) (o := .tup vs) (h' := hp.push (PySem.W.kdv_tup us)) (fun b o e => Heap.get?_push_of_some _ e) (Nat.le_refl _)
      ⟨by rw [r.length]; exact hz, us, r, ⟨_, Heap.get?_push_size _ rfl, rfl, _, rfl⟩⟩
  have hget : ((hp.push (PySem.W.kdv_tup us)).push (PySem.HandSPX.excO C hp.objs.size)).get? (hp.objs.size + 1) = some (PySem.HandSPX.excO C hp.objs.size) := by heap_get
  have I2 : Inv X pins σ (upd (upd H hp.objs.size (.tup vs)) (hp.objs.size + 1) (exo (hp.objs.size + 1) C none hp.objs.size))
      ⟨(hp.push (PySem.W.kdv_tup us)).push (PySem.HandSPX.excO C hp.objs.size), gn, dr, tk, os⟩ :=
    I1.laid (t' := tk) (a := hp.objs.size + 1) (o := exo (hp.objs.size + 1) C none hp.objs.size)
      (h' := (hp.push (PySem.W.kdv_tup us)).push (PySem.HandSPX.excO C hp.objs.size)) (fun b o e => Heap.get?_push_of_some _ e)
      (by show (hp.push (PySem.W.kdv_tup us)).objs.size ≤ _; rw [sz]; exact Nat.le_refl _) (exo_ok hget)
  obtain ⟨yl, eg, ly, em⟩ := hg (hp.objs.size + 1)
  have ne : hp.objs.size ≠ hp.objs.size + 1 := (Nat.succ_ne_self _).symm
  have hsp : spI C n mk (gV (.ref (hp.objs.size + 1) :: vs) zs) (upd (upd H hp.objs.size (.tup vs)) (hp.objs.size + 1) (exo (hp.objs.size + 1) C none hp.objs.size))
      (fun v H2 => v = .non ∧ Q (.ref (hp.objs.size + 1)) H2) E0 := by
    refine ⟨hp.objs.size + 1, hp.objs.size, yl, eg, ly, upd_same, fun H' kp hh => ⟨rfl, h _ _ n1 (fun b o e => ?_) ⟨hp.objs.size, ?_, ?_⟩⟩⟩
    · refine kp b o (ne_of_none e n1) ?_
      rw [upd_ne (ne_of_none e n1), upd_ne (ne_of_none e n0)]; exact e
    · refine kp _ _ ne ?_
      rw [upd_ne ne, upd_same]
    · rw [em] at hh; exact hh
  have r2 : Vals (gV (.ref (hp.objs.size + 1) :: vs) zs) (g (.ref (hp.objs.size + 1) :: us) ws) := hb.rel (.cons rfl r) rz
  have hl : (g (.ref (hp.objs.size + 1) :: us) ws).length = ps.length := by rw [← r2.length]; exact F.len _ _ _ _ hsp
  refine wpAny_call (PySem.Exv.call_kw b.fb (fun Y => PySem.W.excTail_contains Y bm hbm) (I.kIn _ _ hC) (PySem.W.looks_findIn I.kIn hi) (fun self => PySem.W.bind_fn I.kIn self tI) hz
    (codeAny_mono (F.run _ X.stack _ _ ⟨.ref (hp.objs.size + 1) :: us, ks.zip ws⟩ _ _ _ E0 (hr.make C us (ks.zip ws)) (I2.env0.make C us (ks.zip ws)) (hb.to _ _ _ I2.kIn hl) r2 hsp) fun rr s' hq => ?_))
  cases rr with
  | error er => exact False.elim hq
  | ok fl =>
    cases fl with
    | ret u =>
      obtain ⟨v, H', I3, rv, ev, q3⟩ := I2.after hq
      subst ev
      exact ⟨rv, ⟨V.ref (hp.objs.size + 1), H', I3, rfl, q3⟩⟩
    | next => exact False.elim hq
    | brk => exact False.elim hq
    | cont => exact False.elim hq
end

/-- a class of errors of the text: all that a call of it needs; n fields, which mk tells of what was handed to __init__ -/
structure Ec (P : Program) (w : World) (K : PySem.W.Frag) (mg : Str → Option Value) (base : Heap) (x : Str) (C : Addr) (newId : String) (bmB : List Value) (ps : List Str) (n : Nat) (mk : List V → List (Str × V)) : Prop where
  g : mg x = some (.ref C)
  cl : Cl K C newId bmB
  ini : ∃ fI fd, PySem.W.findIn K (.ref C) "__init__" = some (some (.ref fI)) ∧ PySem.W.typeIn K (.ref fI) = some (.type "function") ∧ FnOk P w K mg base CX0 1 fI fd ps (spI C n mk) ∧
    (∀ us : List Value, us.length = ps.length → bindArgs fd ⟨us, []⟩ = pure (ps.zip us)) ∧
    (∀ (s0 : Value) (ws : List Value), ws.length = n → ∀ ks : List Str, ks ++ [("self" : Str)] = ps.reverse → bindArgs fd ⟨[s0], ks.zip ws⟩ = pure (ps.zip (s0 :: ws.reverse)))
theorem kb_pos {K : PySem.W.Frag} {fd : FuncData} {ps : List Str} (h : ∀ us : List Value, us.length = ps.length → bindArgs fd ⟨us, []⟩ = pure (ps.zip us)) : KBinds K fd ps [] (fun us _ => us) (fun vs _ => vs) :=
  ⟨fun s us ws _ hl => .of_eq (h us hl), fun r _ => r⟩

section
variable {X : Cx} {x : Str} {C : Addr} {B newId initId : String} {bmB : List Value} {ps ks : List Str} {n : Nat} {mk : List V → List (Str × V)} {e : Expr} {es : List Expr} {t : TA} {p pos : Pos}
/-- C(..) -/
def tMkE (C : Addr) (n : Nat) (mk : List V → List (Str × V)) (t : TA) : TE := fun σ H Q => t σ H fun vs H1 => vs.length = n ∧ ∀ a H2, H1 a = none → L2.Same H1 H2 → IsExc H2 a C (mk vs) vs → Q (.ref a) H2
theorem pe_mk (b : Bs B newId initId bmB) (D : Ec X.prog X.w X.K X.mg X.base x C newId bmB ps n mk) (hn : n ≤ 1000) (hr : Room 2 X.A) (ha : PA X (e :: es) t) (hg : Gl X x := by rfl)
    (hdb : (x == ("__debug__" : Str)) = false := by decide) (he : starEach (e :: es) X.env = (false, eval e X.env) :: starEach es X.env := by rfl) (hpl : (backTo pos (starEach es X.env)).any (·.1) = false := by rfl) :
    PE X (.Call (.Name x p) (e :: es) [] pos) (tMkE C n mk t) := by
  obtain ⟨fI, fd, hi, tI, F, hb, _⟩ := D.ini
  refine ⟨fun pins s σ H Q I h => ?_⟩
  refine wpAny_Call_Name_kw (ld_glob I hg D.g ?_ hdb)
  refine PySem.W.callWith_K (h₀ := X.base) I.ok.mod.kin D.cl.kC (thn (ha.run pos pins s σ H _ I h) fun us s1 ⟨vs, H1, I1, r, l, q⟩ => ⟨I1.kIn, ?_⟩) he hpl
  refine run_mk (ws := []) (zs := []) b D.cl hi tI F hr (kb_pos hb) I1 r .nil ?_ (fun a => ⟨vs, rfl, l, rfl⟩) q
  rw [List.nil_append, ← r.length, l]
  exact Nat.le_trans hn (by decide)
theorem pe_mk0 (b : Bs B newId initId bmB) (D : Ec X.prog X.w X.K X.mg X.base x C newId bmB ps 0 mk) (hr : Room 2 X.A) (hg : Gl X x := by rfl)
    (hdb : (x == ("__debug__" : Str)) = false := by decide) : PE X (.Call (.Name x p) [] [] pos) (tMkE C 0 mk tNil) := by
  obtain ⟨fI, fd, hi, tI, F, hb, _⟩ := D.ini
  refine ⟨fun pins s σ H Q I h => ?_⟩
  refine wpAny_Call_Name_kw (ld_glob I hg D.g ?_ hdb)
  refine PySem.W.callWith_K0 I.kIn D.cl.kC ?_
  exact run_mk (us := []) (ws := []) (vs := []) (zs := []) b D.cl hi tI F hr (kb_pos hb) I .nil .nil (Nat.zero_le _) (fun a => ⟨[], rfl, rfl, rfl⟩) h.2
/-- C(k = v, ..): all by keywords, the last parameter first -/
def tMkK (C : Addr) (n : Nat) (mk : List V → List (Str × V)) (tk : TA) : TE := fun σ H Q => tk σ H fun zs H1 => zs.length = n ∧ ∀ a H2, H1 a = none → L2.Same H1 H2 → IsExc H2 a C (mk zs.reverse) [] → Q (.ref a) H2
theorem paired_rev {xs : List V} {us : List Value} (r : Vals xs us) : Vals xs.reverse us.reverse := by
  induction r with
  | nil => exact .nil
  | cons h t ih => rw [List.reverse_cons, List.reverse_cons]; exact ih.append (.cons h .nil)
theorem pe_mkK {kws : List Keyword} {tk : TA} (b : Bs B newId initId bmB) (D : Ec X.prog X.w X.K X.mg X.base x C newId bmB ps n mk) (hks2 : ks ++ [("self" : Str)] = ps.reverse) (hr : Room 2 X.A) (hkw : PK X kws tk) (hg : Gl X x := by rfl)
    (hall : (backToKw pos (keywordEach kws X.env)).all (·.1.isSome) = true := by rfl) (hks : (backToKw pos (keywordEach kws X.env)).filterMap (·.1) = ks := by rfl)
    (hdb : (x == ("__debug__" : Str)) = false := by decide) (hpl : ((backTo pos (starEach [] X.env)).any (·.1) || (backToKw pos (keywordEach kws X.env)).any (·.1.isNone)) = false := by rfl) :
    PE X (.Call (.Name x p) [] kws pos) (tMkK C n mk tk) := by
  obtain ⟨fI, fd, hi, tI, F, _, hb⟩ := D.ini
  have hn : ps.length = n + 1 := by
    have z := F.len (.ref 0 :: List.replicate n .non) (upd (fun _ => none) 0 (exo 0 C none 0)) (fun _ _ => True) E0 ⟨0, 0, _, rfl, List.length_replicate, upd_same, fun _ _ _ => trivial⟩
    rw [← z]; simp
  refine ⟨fun pins s σ H Q I h => ?_⟩
  refine wpAny_Call_Name_kw (ld_glob I hg D.g ?_ hdb)
  refine PySem.W.callWith_KW0 (h₀ := X.base) I.ok.mod.kin D.cl.kC hall ?_ hpl
  refine thn (hkw.run pos pins s σ H _ I h) fun ws s2 ⟨zs, H2, I2, rz, l, q2⟩ => ⟨I2.kIn, ?_⟩
  rw [hks]
  have kb : KBinds X.K fd ps ks (fun us ws => if us.length = 1 ∧ ws.length = n then us ++ ws.reverse else []) (fun vs zs => if vs.length = 1 ∧ zs.length = n then vs ++ zs.reverse else []) := by
    refine ⟨fun s us ws _ hl => ?_, fun {vs us zs ws} r rz => ?_⟩
    · by_cases c : us.length = 1 ∧ ws.length = n
      · rw [if_pos c]
        match us, c.1 with
        | [u], _ => exact .of_eq (hb u ws c.2 ks hks2)
      · rw [if_neg c, hn] at hl
        cases hl
    · have e1 : vs.length = us.length := r.length
      have e2 : zs.length = ws.length := rz.length
      show Vals (if vs.length = 1 ∧ zs.length = n then vs ++ zs.reverse else []) (if us.length = 1 ∧ ws.length = n then us ++ ws.reverse else [])
      rw [e1, e2]
      by_cases c : us.length = 1 ∧ ws.length = n
      · rw [if_pos c, if_pos c]; exact r.append (paired_rev rz)
      · rw [if_neg c, if_neg c]; exact .nil
  exact run_mk (us := []) (vs := []) b D.cl hi tI F hr kb I2 .nil rz (Nat.zero_le _) (fun a => ⟨zs.reverse, if_pos ⟨rfl, l⟩, by rw [List.length_reverse]; exact l, rfl⟩) q2
end
end Exv

set_option Elab.async false
set_option linter.all false
set_option maxRecDepth 100000
set_option maxHeartbeats 4000000
namespace PySem
namespace Exv
open PySem.W PySem.Calls PyProof.Rows
section
variable {prog : Program} {w : World} {A : Around} {E : Value → Shared → Prop} {s : Shared} {K : Frag} {x D : Addr} {ox : Obj} {od : Option Obj}
/-- the class of an error, asked as an attribute -/
theorem kin_cls {Q : Option Value → Shared → Prop} (hga : findIn K (.ref D) "__getattribute__" = some (some (.builtin "BaseException.__getattribute__")))
    (hgt : findIn K (.ref D) "__getattr__" = some none) (hsub : subIn K (.ref D) (.type "BaseException") = some true)
    (hf : findObj K D od "__class__" = some (.bind (.builtin "getset_descriptor.__get__") (.builtin "object.__class__"))) (hm : mroIn K D (.type "object") = some true)
    (X : K.In s.heap) (I : InstAt s.heap x ox D od) (h : Q (some (.ref D)) { s with toks := s.toks + 1 }) : wpAny (model prog w) A (getAttr? (.ref x) "__class__") Q E s := by
  obtain ⟨hp, g, d, t, os⟩ := s
  have l0 := I.type (M := model prog w)
  have l1 := looks_findIn (M := model prog w) X hga
  have l2 := looks_findIn (M := model prog w) X hgt
  have l3 := looks_find (M := model prog w) X I hf
  have sub : Looks (model prog w) hp (isInstance (.ref x) (.type "BaseException")) true := l0.andThen (looks_subIn X hsub)
  have z0 : (false && onTheHeap (Value.builtin "BaseException.__getattribute__")) = false := rfl
  have z2 : (Value.builtin "BaseException.__getattribute__" == Value.builtin "object.__getattribute__") = false := by decide +kernel
  have z1 : (onTheHeap (Value.ref D) && Value.builtin "BaseException.__getattribute__" == Value.builtin "object.__getattribute__") = false := by
    rw [z2]
    rfl
  unfold getAttr? getAttrBy? getAttrBy
  refine wpAny_bind (wpAny_mkText (wpAny_bind (wpAny_attempt (wpAny_holding (wpAny_bind (l0.at (wpAny_bind (l1.at ?_))))))))
  show wpAny _ _ (if (onTheHeap (Value.ref D) && Value.builtin "BaseException.__getattribute__" == Value.builtin "object.__getattribute__") = true then _ else _) _ _ _
  rw [z1, if_neg Bool.false_ne_true]
  unfold getAttrByItsOwn hookBefore
  refine wpAny_bind ?_
  rw [if_pos (show onTheHeap (Value.ref D) = true from rfl)]
  refine l2.at ?_
  refine wpAny_bind (wpAny_attempt (wpAny_holding ?_))
  unfold callGetattribute
  rw [z0, if_neg Bool.false_ne_true]
  unfold boundAndCalled
  rw [PySem.F.excAttr_ValueError.ga.bind (.ref x)]
  refine wpAny_bind (wpAny_pure ?_)
  show wpAny _ _ (call (.builtin "BaseException.__getattribute__") [.ref x, .str "__class__" t]) _ _ _
  refine wpAny_call (codeAny_call_builtin PySem.F.excAttr_ValueError.ga.plain PySem.F.entry_bexc_ga ?_)
  refine @check_slot (model prog w) _ _ ⟨hp, g, d, t + 1, os⟩ "BaseException.__getattribute__" "BaseException" "__getattribute__" (.ref x) [.str "__class__" t] [] _
    (by decide +kernel) (by decide +kernel) sub (PySem.F.args_bexc_ga (.ref x) (.str "__class__" t)) ?_
  unfold Builtin.«object.__getattribute__»
  refine wpAny_bind (wpAny_of_eq (a := ((Value.ref x : Value), [Value.str "__class__" t])) (by first | rfl | (simp only [slotArgs]; rfl)) ?_)
  refine wpAny_bind (wpAny_pure (wpAny_bind (l0.at (wpAny_bind (l3.at ?_)))))
  show wpAny _ _ (holding [Value.builtin "object.__class__"] (call (.builtin "getset_descriptor.__get__") [.builtin "object.__class__", .ref x, .ref D]) >>= ret) _ _ _
  refine wpAny_bind (wpAny_holding (wpAny_call (class_get (s := ⟨hp, g, d, t + 1, os⟩) (ox := ox) (od := od) X I hm ?_)))
  refine wpAny_pure ?_
  show wpAny _ _ (handedOut (.ref D)) _ _ _
  rw [handedOut_of (v := .ref D) rfl]
  first
    | exact wpAny_pure (wpAny_pure h)
    | exact wpAny_pure h
    | exact wpAny_pure (wpAny_bind (wpAny_pure (wpAny_pure h)))
theorem kit_exc (hga : findIn K (.ref D) "__getattribute__" = some (some (.builtin "BaseException.__getattribute__")))
    (hgt : findIn K (.ref D) "__getattr__" = some none) (hsub : subIn K (.ref D) (.type "BaseException") = some true) (hd : hasDictIn K D = true)
    (hf : findObj K D od "__class__" = some (.bind (.builtin "getset_descriptor.__get__") (.builtin "object.__class__"))) (hm : mroIn K D (.type "object") = some true) :
    KitX K (.ref x) (.ref D) (fun h => InstAt h x ox D od) where
  ty := fun _ _ _ I => I.type
  it := fun _ _ X _ => by
    obtain ⟨cdD, hcD, _⟩ := any_some hd
    unfold clsIn at hcD
    split at hcD
    · rename_i c' d' cd' sl' ho
      intro A' Q' E' s' k q
      unfold isType loadHead
      exact wpAny_bind (wpAny_loadPart (k _ _ (X _ _ ho)) (wpAny_pure q))
    · cases hcD
  ne := fun h tp dd its n sl X htp => by
    obtain ⟨cdD, hcD, _⟩ := any_some hd
    refine Bool.eq_false_iff.mpr fun q => ?_
    have e : D = tp := Value.ref.inj (beq_iff_eq.mp q)
    subst e
    unfold clsIn at hcD
    split at hcD
    · rename_i c' d' cd' sl' ho
      have z := (X _ _ ho).symm.trans htp
      cases z
    · cases hcD
  ca := fun X I k => kin_cls hga hgt hsub hf hm X I k
end
end Exv
end PySem

namespace Exv
open PySem L2 Lay PyProof.Rows
/-- what isinstance asks of the written part, once -/
structure Gs (K : PySem.W.Frag) : Prop where
  hn : PySem.W.specialIn K (.builtin "object.__class__") "__get__" = some (some (.builtin "getset_descriptor.__get__"))
  ht : PySem.W.takesIn K (.builtin "object.__class__") = some true
/-- a value's kind: those of the library, or an own error -/
inductive TyE (K : PySem.W.Frag) (H : Hp) : V → Value → Prop where
  | base {x : V} {t : Value} (h : TyX K H x t) : TyE K H x t
  | exc {a C : Addr} {fs : List (Str × V)} {args : List V} {newId : String} {bmB : List Value} (h : IsExc H a C fs args) (T : Cl K C newId bmB) : TyE K H (.ref a) (.ref C)
def rIsE (K : PySem.W.Frag) : List V → Hp → VK → Prop := fun xs H Q => ∃ (x c : V) (t u : Value) (b : Bool), xs = [x, c] ∧ ClsV c u ∧ TyE K H x t ∧ PySem.W.kitOne K t u = some b ∧ Q (.bl b) H
/-- e.f, e an error -/
def tAt (K : PySem.W.Frag) (f : Str) (te : TE) : TE := fun σ H Q => te σ H fun x H1 => ∃ (a C : Addr) (fs : List (Str × V)) (args : List V) (v : V), x = .ref a ∧ IsExc H1 a C fs args ∧
  (∃ newId bmB, Cl K C newId bmB) ∧ PySem.W.findIn K (.ref C) f = some none ∧ fs.lookup f = some v ∧ Q v H1
/-- self.f = e, self an error -/
def tSt (K : PySem.W.Frag) (newId : String) (bmB : List Value) (f : Str) (to te : TE) : TS := fun D σ H => te σ H fun y H1 => to σ H1 fun x H2 => ∃ a C t1 : Addr, x = .ref a ∧ Cl K C newId bmB ∧ PySem.W.findIn K (.ref C) f = some none ∧
  ((H2 a = some (exo a C none t1) ∧ ∀ dx, H2 dx = none → dx ≠ a → D.nx σ (upd (upd H2 dx (exd dx [(f, y)])) a (exo a C (some dx) t1))) ∨
    ∃ (dx : Addr) (fs : List (Str × V)), H2 a = some (exo a C (some dx) t1) ∧ H2 dx = some (exd dx fs) ∧ fs.length ≤ 900 ∧ D.nx σ (upd H2 dx (exd dx ((f, y) :: fs))))
section
variable {X : Cx} {o e : Expr} {to te : TE} {f : Str} {p p' pos : Pos} {B newId initId : String} {bmB : List Value}
theorem ps_st (b : Bs B newId initId bmB) (ho : PE X o to) (he : PE X e te) (hs : swapsWith e (some (.Attribute o f p')) pos.line X.env = pure false := by rfl) : PS X (.Assign [.Attribute o f p'] e pos) (tSt X.K newId bmB f to te) := by
  refine ⟨fun pins s σ H D I h => ?_⟩
  refine plainObj_wpAny_Assign_Attribute (thn (he.run pins s σ H _ I h) fun v s1 ⟨y, H1, I1, r1, q1⟩ => thn (ho.run pins s1 σ H1 _ I1 q1) fun u s2 ⟨x, H2, I2, r2, a, C, t1, ex, T, hno, q⟩ => ?_) hs
  subst ex
  obtain rfl : u = Value.ref a := r2
  rcases q with ⟨ea, q⟩ | ⟨dx, fs, ea, ed, hl, q⟩
  · exact st_new b T I2 ea hno r1 fun dx s' n ne J => ⟨σ, _, J, q dx n ne⟩
  · exact st_old b T I2 ea ed hl hno r1 fun s' J => ⟨σ, _, J, q⟩
theorem pe_at (he : PE X e te) (hb : attributeBase e f X.env (eval e X.env) = eval e X.env := by rfl) : PE X (.Attribute e f pos) (tAt X.K f te) := by
  refine ⟨fun pins s σ H Q I h => ?_⟩
  refine attr_of hb (thn (he.run pins s σ H _ I h) fun u s1 ⟨x, H1, I1, rx, a, C, fs, args, v, ex, hx, ⟨newId, bmB, T⟩, hno, hl, q⟩ => ?_)
  subst ex
  obtain rfl : u = Value.ref a := rx
  obtain ⟨t, ht, hx⟩ := hx
  rcases hx with ⟨z, hx⟩ | ⟨d, hx, hd⟩
  · subst z; cases hl
  · exact at_get T I1 hx hd hl hno fun u' s2 ru J => ⟨v, H1, J, ru, q⟩
theorem call_isE (G : Gs X.K) : CallR X (.builtin "isinstance") (rIsE X.K) := by
  intro pins s σ H xs us Q I r h
  obtain ⟨x, c, t, u, b, rfl, k, ty, e, q⟩ := h
  cases ty with
  | base ty => exact call_isi pins s σ H _ us Q I r ⟨x, c, t, u, b, rfl, k, ty, e, q⟩
  | @exc a C fs args newId bmB hx T =>
    obtain ⟨u1, u2, rfl, r1, r2⟩ := vals2 r
    have e2 := k.eq r2
    subst e2
    cases (show u1 = Value.ref a from r1)
    obtain ⟨t, ht, hx⟩ := hx
    have hc : (PySem.W.clsIn X.K C).isSome = true := by
      obtain ⟨cd, bm, h1, _⟩ := T.cd
      rw [h1]; rfl
    rcases hx with ⟨z, hx⟩ | ⟨d, hx, hd⟩
    · have J : PySem.W.InstAt s.heap a _ C none := ⟨exo_at I.hok hx, rfl, rfl, trivial⟩
      exact PySem.W.kia_one (PySem.Exv.kit_exc T.ga T.gg T.exC T.hd (PySem.W.findObj_dataN hc T.ha G.hn G.ht) T.hm) I.kIn J e (fun z => nomatch z) fun tk => ⟨.bl b, H, I.tok tk, rfl, q⟩
    · obtain ⟨mA, hns, rel⟩ := exd_at I.hok hd
      obtain ⟨od, hod, hl⟩ := lookIn_ns hns
      have J : PySem.W.InstAt s.heap a _ C (some od) := ⟨exo_at I.hok hx, rfl, rfl, hod⟩
      exact PySem.W.kia_one (PySem.Exv.kit_exc T.ga T.gg T.exC T.hd (PySem.W.findObj_data hc T.ha G.hn G.ht) T.hm) I.kIn J e (fun z => nomatch z) fun tk => ⟨.bl b, H, I.tok tk, rfl, q⟩
end

/-! ### the three shapes of __init__ -/
def mk0 : List V → List (Str × V) := fun _ => []
def mk1 (f : Str) : List V → List (Str × V)
  | [v] => [(f, v)]
  | _ => []
def mk2 (f g : Str) : List V → List (Str × V)
  | [v, u] => [(g, u), (f, v)]
  | _ => []
section
variable {P : Program} {w : World} {K : PySem.W.Frag} {mg : Str → Option Value} {base : Heap} {C fI : Addr} {fd : FuncData} {qual : Str} {st : Stmt} {B newId initId : String} {bmB : List Value} {f g : Str}
theorem init0 {q : Pos} (F : Fun K "__init__" qual st fI fd) (S : FnScope ["self"] ["self"] (defScope st)) (hb : defBody st = [.Pass q]) : FnOk P w K mg base CX0 1 fI fd ["self"] (spI C 0 mk0) := by
  refine F.ok S (fun vs H Q E h => ?_) (fun cdv A outer s H vs Q E hr h => ?_)
  · obtain ⟨a, t, ws, rfl, l, _⟩ := h
    show ws.length + 1 = 1
    rw [l]
  · obtain ⟨a, t, ws, rfl, l, ha, k⟩ := h
    rw [hb]
    exact ⟨_, pss_one ps_pass, k H (fun _ _ _ e => e) (.inl ⟨rfl, ha⟩)⟩
theorem init1 {q1 q2 q3 q4 : Pos} (b : Bs B newId initId bmB) (F : Fun K "__init__" qual st fI fd) (S : FnScope ["self", f] ["self", f] (defScope st)) (hb : defBody st = [.Assign [.Attribute (.Name "self" q1) f q2] (.Name f q3) q4])
    (hd1 : (f == ("__debug__" : Str)) = false) (hd2 : (f == ("__classdict__" : Str)) = false) (T : Cl K C newId bmB) (no : PySem.W.findIn K (.ref C) f = some none)
    (hsw : ∀ env, swapsWith (.Name f q3) (some (.Attribute (.Name "self" q1) f q2)) q4.line env = pure false) : FnOk P w K mg base CX0 1 fI fd ["self", f] (spI C 1 (mk1 f)) := by
  refine F.ok S (fun vs H Q E h => ?_) (fun cdv A outer s H vs Q E hr h => ?_)
  · obtain ⟨a, t, ws, rfl, l, _⟩ := h
    show ws.length + 1 = 2
    rw [l]
  · obtain ⟨a, t, ws, rfl, l, ha, k⟩ := h
    rw [hb]
    match ws, l with
    | [v], _ =>
      refine ⟨_, pss_one (ps_st b (pe_var (i := 0) rfl ((S.par "self" (List.Mem.head _)).elim .inl fun z => .inr (.inl z))) (pe_var (i := 1) rfl ((S.par f (.tail _ (List.Mem.head _))).elim .inl fun z => .inr (.inl z)) hd1 hd2) (hsw _)), ?_⟩
      refine ⟨v, rfl, .ref a, rfl, a, C, t, rfl, T, no, .inl ⟨ha, fun dx nd ne => ?_⟩⟩
      refine k _ (fun b o n e => ?_) (.inr ⟨dx, upd_same, ?_⟩)
      · rw [upd_ne n, upd_ne (ne_of_none e nd)]; exact e
      · rw [upd_ne ne, upd_same]; rfl
theorem init2 {q1 q2 q3 q4 q5 q6 q7 q8 : Pos} (b : Bs B newId initId bmB) (F : Fun K "__init__" qual st fI fd) (S : FnScope ["self", f, g] ["self", f, g] (defScope st))
    (hb : defBody st = [.Assign [.Attribute (.Name "self" q1) f q2] (.Name f q3) q4, .Assign [.Attribute (.Name "self" q5) g q6] (.Name g q7) q8])
    (hd1 : (f == ("__debug__" : Str)) = false) (hd2 : (f == ("__classdict__" : Str)) = false) (hd3 : (g == ("__debug__" : Str)) = false) (hd4 : (g == ("__classdict__" : Str)) = false)
    (T : Cl K C newId bmB) (no : PySem.W.findIn K (.ref C) f = some none) (no2 : PySem.W.findIn K (.ref C) g = some none)
    (hsw : ∀ env, swapsWith (.Name f q3) (some (.Attribute (.Name "self" q1) f q2)) q4.line env = pure false) (hsw2 : ∀ env, swapsWith (.Name g q7) (some (.Attribute (.Name "self" q5) g q6)) q8.line env = pure false) :
    FnOk P w K mg base CX0 1 fI fd ["self", f, g] (spI C 2 (mk2 f g)) := by
  refine F.ok S (fun vs H Q E h => ?_) (fun cdv A outer s H vs Q E hr h => ?_)
  · obtain ⟨a, t, ws, rfl, l, _⟩ := h
    show ws.length + 1 = 3
    rw [l]
  · obtain ⟨a, t, ws, rfl, l, ha, k⟩ := h
    rw [hb]
    match ws, l with
    | [v, u], _ =>
      have vs := (S.par "self" (List.Mem.head _)).elim (fun z => (.inl z : Vis _ _)) fun z => .inr (.inl z)
      refine ⟨_, pss_cons (ps_st b (pe_var (i := 0) rfl ((S.par "self" (List.Mem.head _)).elim .inl fun z => .inr (.inl z))) (pe_var (i := 1) rfl ((S.par f (.tail _ (List.Mem.head _))).elim .inl fun z => .inr (.inl z)) hd1 hd2) (hsw _))
        (pss_one (ps_st b (pe_var (i := 0) rfl ((S.par "self" (List.Mem.head _)).elim .inl fun z => .inr (.inl z))) (pe_var (i := 2) rfl ((S.par g (.tail _ (.tail _ (List.Mem.head _)))).elim .inl fun z => .inr (.inl z)) hd3 hd4) (hsw2 _))), ?_⟩
      refine ⟨v, rfl, .ref a, rfl, a, C, t, rfl, T, no, .inl ⟨ha, fun dx nd ne => ?_⟩⟩
      refine ⟨u, rfl, .ref a, rfl, a, C, t, rfl, T, no2, .inr ⟨dx, _, upd_same, by rw [upd_ne ne, upd_same], by show 1 ≤ 900; decide, ?_⟩⟩
      refine k _ (fun b o n e => ?_) (.inr ⟨dx, ?_, ?_⟩)
      · rw [upd_ne (ne_of_none e nd), upd_ne n, upd_ne (ne_of_none e nd)]; exact e
      · rw [upd_ne ne.symm, upd_same]
      · rw [upd_same]; rfl
end
end Exv

set_option Elab.async false
set_option linter.all false
set_option maxRecDepth 100000
set_option maxHeartbeats 4000000
namespace PySem
namespace Exv
open Builtin Builtin.Str Builtin.BaseException Builtin.Exceptions
section
variable {prog : Program} {w : World} {A : Around} {E : Value → Shared → Prop} {K : W.Frag} {e C t0 : Addr} {hp : Heap} {g : Array GenState} {d : Drawn} {t : Nat} {os : OsState}
/-- BaseException.__repr__ of an own error that was made of other than one thing -/
theorem bexc_own {b : Nat} {Q : Fin → Shared → Prop} {ox : Obj} {od : Option Obj} {cd : ClassData} {fv : Array Value} {items : List Value} {tt : Str}
    (X : K.In hp) (I : W.InstAt hp e ox C od) (hcd : W.clsIn K C = some cd) (hd : ox.data = .fields fv) (h0 : fv[0]? = some (.ref t0))
    (ht : hp.TupAt t0 items) (hi : items.length ≠ 1) (hb : b + (Str.ofString ((cd.name.toString.cutAt '.').getLastD "")).length ≤ sizeLine)
    (hr : ∀ Q' : Str → Shared → Prop, (∀ h' tk, (∀ b o, hp.get? b = some o → h'.get? b = some o) → Q' tt ⟨h', g, d, tk, os⟩) →
      wpAny (model prog w) A (pyReprUnder (b + (Str.ofString ((cd.name.toString.cutAt '.').getLastD "")).length) (.ref t0)) Q' E ⟨hp, g, d, t, os⟩)
    (hz : (Str.ofString ((cd.name.toString.cutAt '.').getLastD "") ++ tt).length ≤ sizeLine)
    (hq : ∀ h' u tk, (∀ b o, hp.get? b = some o → h'.get? b = some o) → Q (.done (.ret (.str (Str.ofString ((cd.name.toString.cutAt '.').getLastD "") ++ tt) u))) ⟨h', g, d, tk, os⟩) :
    wpAny (model prog w) A (Builtin.bexcReprAt b ⟨[.ref e], []⟩) Q E ⟨hp, g, d, t, os⟩ := by
  have l0 := I.type (M := model prog w)
  have hcls : W.Looks (model prog w) hp (classData C) cd := W.looks_clsIn X hcd
  obtain ⟨ot, k, hto, _, htd⟩ := ht
  unfold Builtin.bexcReprAt typeNameOfWhole shownTypeOf typeNameWhole bexcArgs
  repeat (first
    | with_reducible refine l0.at ?_
    | with_reducible refine hcls.at ?_
    | with_reducible refine wpAny_field I.1 hd h0 ?_
    | with_reducible refine wpAny_seqItems hto htd ?_
    | wp_step)
  have fin : wpAny (model prog w) A (do
      let z ← pyReprUnder (b + (Str.ofString ((cd.name.toString.cutAt '.').getLastD "")).length) (.ref t0)
      retStr (Str.ofString ((cd.name.toString.cutAt '.').getLastD "") ++ z)) Q E ⟨hp, g, d, t, os⟩ := by
    refine wpAny_bind (hr _ fun h' tk kp => ?_)
    repeat wp_step
    exact hq h' _ _ kp
  have e1 : items.toArray.toList = items := by simp
  rw [e1]
  match items, hi with
  | [], _ => exact fin
  | x :: y :: r, _ => exact fin

/-- its text, within another's -/
theorem repr_exc {as : List Addr} {h0 : Heap} {dp : Nat} {ox : Obj} {od : Option Obj} {cd : ClassData} {fv : Array Value} {items : List Value} {ts : List Str}
    (X : K.In h0) (hX : ∀ hh : Heap, (∀ b o, h0.get? b = some o → hh.get? b = some o) → W.InstAt hh e ox C od) (hcd : W.clsIn K C = some cd)
    (hrp : W.findIn K (.ref C) "__repr__" = some (some (.builtin "BaseException.__repr__"))) (hsub : W.subIn K (.ref C) (.type "BaseException") = some true)
    (hd : ox.data = .fields fv) (hf : fv[0]? = some (.ref t0)) (ht : h0.TupAt t0 items) (hi : items.length ≠ 1) (hn : t0 ∉ as)
    (hk : ReprAllK prog w as h0 dp items ts) :
    ReprK prog w (t0 :: as) h0 (dp + 2) (.ref e) (Str.ofString ((cd.name.toString.cutAt '.').getLastD "") ++ tupleText ts) := by
  intro base hb A g E s Q hg hcl hu hk0 hQ
  have hl : base + ((Str.ofString ((cd.name.toString.cutAt '.').getLastD "")).length + (tupleText ts).length) ≤ sizeLine := by
    rw [← strLen_append]; exact hb
  refine wpAny_pyReprUnder_ref (by omega) ?_
  have I := hX _ hk0
  have Xs : K.In s.heap := X.keeps hk0
  have l0 := I.type (M := model prog w)
  have l1 := W.looks_findIn (M := model prog w) Xs hrp
  have bnd : ∀ self, bindSpecial (.builtin "BaseException.__repr__") self = pure (.builtin "BaseException.__repr__", [self]) := F.excStr_ValueError.repr.toG.bind
  have sub : W.Looks (model prog w) s.heap (isInstance (.ref e) (.type "BaseException")) true := l0.andThen (W.looks_subIn Xs hsub)
  obtain ⟨ot, k, hto, htc, htd⟩ := id ht
  have core : wpAny (model prog w) A (call (.builtin "BaseException.__repr__.under") [.ref e, rawInt base])
      (fun v s' => (∃ x u, v = .str x u) ∧ ∃ x u, v = .str x u ∧ Q x s') E s := by
    refine wpAny_call (codeAny_call_builtin F.plain_bexc_repr_under F.entry_bexc_repr_under ?_)
    rw [F.check_bexc_repr_under]
    refine wpAny_pure ?_
    show wpAny _ _ (reprTwin "BaseException.__repr__" Builtin.bexcReprAt ⟨[.ref e, rawInt base], []⟩) _ _ _
    rw [reprTwin_eq]
    refine wpAny_bind (@W.check_slot (model prog w) _ _ s "BaseException.__repr__" "BaseException" "__repr__" (.ref e) [] [] _ (by decide +kernel) (by decide +kernel) sub (F.args_bexc_repr _) ?_)
    obtain ⟨hp, gn, dr, tk, os⟩ := s
    refine bexc_own (K := K) (tt := tupleText ts) Xs I hcd hd hf ⟨ot, k, hk0 _ _ hto, htc, htd⟩ hi (by omega) (fun Q' hq' => ?_) (by rw [strLen_append]; omega) (fun h' u tk kp => ?_)
    · exact ReprK.tuple hto htc htd hn (by simpa using hk) _ (by omega) A.in1 g _ _ Q' (by simpa using hg) hcl (by show A.units + 1 + (dp + 1) < cLine; omega) hk0 fun h' tk kp => hq' h' tk kp
    · exact ⟨⟨_, _, rfl⟩, _, _, rfl, hQ h' tk kp⟩
  unfold pyReprObjUnder pyReprObjBy
  refine wpAny_bind (wpAny_cRoomFor (by omega) ?_)
  unfold specialOf
  refine wpAny_bind (wpAny_bind (l0.at (l1.at ?_)))
  simp only [Option.isNone_some, Bool.false_eq_true, if_false]
  refine wpAny_bind ?_
  simp only [callSpecialIfBoundBy?, bindSpecialIfBound?, specialOf]
  refine wpAny_holding (wpAny_bind (wpAny_bind (wpAny_bind (l0.at (l1.at ?_)))))
  simp only [bnd]
  refine wpAny_bind (wpAny_askSetting (wpAny_ite ?_))
  have fin : wpAny (model prog w) A (call (.builtin "BaseException.__repr__.under") [.ref e, rawInt base] >>= fun v => pure (some v))
      (fun o s' => wpAny (model prog w) A (match o with
        | some r => (do
          let b ← isInstance r (.type "str")
          if b = true then pure r else do
            let z ← typeNameOf r
            raiseErrorMade "TypeError" (toString "__repr__ returned non-string (type " ++ toString z ++ toString ")"))
        | none => unsupported "repr:special-get-raises") (fun v s' => ∃ x u, v = .str x u ∧ Q x s') E s') E s := by
    refine wpAny_bind (wpAny_mono core (fun v s' hv => wpAny_pure ?_) fun _ _ x => x)
    obtain ⟨⟨x, u, rfl⟩, hq⟩ := hv
    exact wpAny_bind (wpAny_isInstance (T := "str") (b := true) rfl isSubtype_str_str (wpAny_pure hq))
  split
  · exact wpAny_bind (wpAny_pure (wpAny_pure fin))
  · exact wpAny_tryCatch (wpAny_bind (wpAny_pure (wpAny_pure fin)))
end
end Exv
end PySem

set_option Elab.async false
set_option linter.all false
set_option maxRecDepth 100000
set_option maxHeartbeats 4000000
namespace Rp
open PySem L2 Lay Exv
/-- what an own error's class tells for its text -/
structure ClR (K : PySem.W.Frag) (C : Addr) (nm : Str) : Prop where
  cl : ∃ newId bmB, Cl K C newId bmB
  cd : ∃ cd, PySem.W.clsIn K C = some cd ∧ Str.ofString ((cd.name.toString.cutAt '.').getLastD "") = nm
  rp : PySem.W.findIn K (.ref C) "__repr__" = some (some (.builtin "BaseException.__repr__"))
mutual
/-- the text of a value, over what is tracked; the containers within -/
inductive Sw (K : PySem.W.Frag) (H : Hp) : List Addr → V → Str → Prop where
  | non : Sw K H [] .non "None"
  | bl (b : Bool) : Sw K H [] (.bl b) (if b then "True" else "False")
  | int (i : Int) (h : i.natAbs.log2 < 1920) : Sw K H [] (.int i) (toString i)
  | str (z : Str) : Sw K H [] (.str z) (reprText z)
  | lst0 {a : Addr} (h : H a = some (.lst [])) : Sw K H [] (.ref a) "[]"
  | lst {a : Addr} {as : List Addr} {x : V} {xs : List V} {ts : List Str} (h : H a = some (.lst (x :: xs))) (l : SwL K H as (x :: xs) ts) (n : a ∉ as) : Sw K H (a :: as) (.ref a) (listText ts)
  | tup {a : Addr} {as : List Addr} {xs : List V} {ts : List Str} (h : H a = some (.tup xs)) (l : SwL K H as xs ts) (n : a ∉ as) : Sw K H (a :: as) (.ref a) (tupleText ts)
  | dct {a : Addr} {as : List Addr} {kvs : List (Key × V)} {ks ts : List Str} (h : H a = some (.dK kvs)) (l1 : SwL K H [] (kvs.map fun p => kV p.1) ks) (l : SwL K H as (kvs.map (·.2)) ts) (n : a ∉ as) :
      Sw K H (a :: as) (.ref a) (dictText ((ks.zip ts).map fun p => p.1 ++ ": " ++ p.2))
  | exc {a C : Addr} {t : Addr} {as : List Addr} {xs : List V} {ts : List Str} {nm : Str} (d : Addr) {fs : List (Str × V)} (h : H a = some (exo a C (some d) t)) (hd : H d = some (exd d fs)) (ht : H t = some (.tup xs)) (R : ClR K C nm) (l : SwL K H as xs ts)
      (n : t ∉ as) (hl : xs.length ≠ 1) : Sw K H (t :: as) (.ref a) (nm ++ tupleText ts)
inductive SwL (K : PySem.W.Frag) (H : Hp) : List Addr → List V → List Str → Prop where
  | nil : SwL K H [] [] []
  | cons {as bs : List Addr} {x : V} {t : Str} {xs : List V} {ts : List Str} (h : Sw K H as x t) (l : SwL K H bs xs ts) : SwL K H (as ++ bs) (x :: xs) (t :: ts)
end
section
variable {P : Program} {w : World} {K : PySem.W.Frag} {H : Hp} {h : Heap}
theorem all_at {as : List Addr} {d : Nat} : ∀ {us : List Value} {ts : List Str}, ReprAllK P w as h d us ts → ∀ (i : Nat) (y : Value), us[i]? = some y → ∃ t, ts[i]? = some t ∧ ReprK P w as h d y t
  | _, _, .nil, i, y, e => by simp at e
  | _, _, .cons r l, 0, y, e => by simp at e; subst e; exact ⟨_, rfl, r⟩
  | _, _, .cons r l, i + 1, y, e => by
    obtain ⟨t, h1, h2⟩ := all_at l i y (by simpa using e)
    exact ⟨t, by simpa using h1, h2⟩
theorem all_more {as as' : List Addr} {d d' : Nat} (hs : ∀ b ∈ as, b ∈ as') (hd : d ≤ d') : ∀ {us : List Value} {ts : List Str}, ReprAllK P w as h d us ts → ReprAllK P w as' h d' us ts
  | _, _, .nil => .nil
  | _, _, .cons r l => .cons ((r.more hs).level_le hd) (all_more hs hd l)
theorem keys_vals : ∀ {es : List DictEntry} {vs : List (Key × Value)} {kvs : List (Key × V)}, Pairs (mixKind P w) es vs → KV kvs vs → Vals (kvs.map fun p => kV p.1) (es.map (·.key)) ∧ Vals (kvs.map (·.2)) (es.map (·.val))
  | _, _, _, .nil, .nil => ⟨.nil, .nil⟩
  | e :: es, (k, v) :: vs, (k', v') :: kvs, .cons h1 h2 l, .cons r rr => by
    obtain ⟨a, b⟩ := keys_vals l rr
    obtain ⟨e1, r1⟩ := r
    have e1' : k' = k := e1
    subst e1'
    refine ⟨.cons ?_ a, .cons (by show RelV v' e.val; rw [h2]; exact r1) b⟩
    have z : keyIs k' e.key = true := h1
    rcases keyIs_shape z with ⟨i, t, rfl, e2⟩ | ⟨x, t, rfl, e2⟩
    · exact ⟨t, e2⟩
    · exact ⟨t, e2⟩
theorem ents {as : List Addr} {d : Nat} : ∀ {es : List DictEntry} {ks ts : List Str}, ReprAllK P w as h d (es.map (·.key)) ks → ReprAllK P w as h d (es.map (·.val)) ts → ReprEntriesK P w as h d es ((ks.zip ts).map fun p => p.1 ++ ": " ++ p.2)
  | [], _, _, .nil, .nil => .nil
  | e :: es, _, _, .cons k1 l1, .cons k2 l2 => .cons k1 k2 (ents l1 l2)
theorem swl_len : ∀ {as : List Addr} {xs : List V} {ts : List Str}, SwL K H as xs ts → xs.length = ts.length
  | _, _, _, .nil => rfl
  | _, _, _, .cons _ l => by rw [List.length_cons, List.length_cons, swl_len l]
theorem mem_l {l1 l2 : List Str} (hl : l1.length = l2.length) {t : Str} (ht : t ∈ l1) : ∃ p ∈ (l1.zip l2).map (fun p => p.1 ++ (": " : Str) ++ p.2), t.length ≤ p.length := by
  obtain ⟨i, hi, e⟩ := List.getElem_of_mem ht
  refine ⟨l1[i] ++ (": " : Str) ++ l2[i], List.mem_map.mpr ⟨(l1[i], l2[i]), List.mem_iff_getElem.mpr ⟨i, by simp; omega, by simp⟩, rfl⟩, ?_⟩
  rw [← e, strLen_append, strLen_append]; omega
theorem mem_r {l1 l2 : List Str} (hl : l1.length = l2.length) {t : Str} (ht : t ∈ l2) : ∃ p ∈ (l1.zip l2).map (fun p => p.1 ++ (": " : Str) ++ p.2), t.length ≤ p.length := by
  obtain ⟨i, hi, e⟩ := List.getElem_of_mem ht
  refine ⟨l1[i] ++ (": " : Str) ++ l2[i], List.mem_map.mpr ⟨(l1[i], l2[i]), List.mem_iff_getElem.mpr ⟨i, by simp; omega, by simp⟩, rfl⟩, ?_⟩
  rw [← e, strLen_append]; omega
mutual
theorem sw_repr (ok : HOk P w H h) (X : K.In h) : ∀ {as : List Addr} {x : V} {t : Str} {u : Value}, Sw K H as x t → RelV x u → t.length ≤ sizeLine → ReprK P w as h (2 * as.length) u t
  | _, _, _, _, .non, r, _ => by cases (show _ = Value.none from r); exact .of_is ReprIs.none _ _ _
  | _, _, _, _, .bl b, r, _ => by cases (show _ = Value.bool b from r); exact .of_is (ReprIs.bool b) _ _ _
  | _, _, _, _, .int i hi, r, _ => by obtain ⟨t, e⟩ := r; subst e; exact .of_is (ReprIs.int t hi) _ _ _
  | _, _, _, _, .str z, r, hz => by obtain ⟨t, e⟩ := r; subst e; exact .of_is (ReprIs.str z t hz) _ _ _
  | _, _, _, _, .lst0 (a := a) e, r, _ => by
    cases (show _ = Value.ref a from r)
    obtain ⟨_, its, n, rv, e1⟩ := (show ObjOk P w H h a (.lst []) from ok a _ e)
    cases rv
    exact ReprK.listEmpty e1 rfl rfl
  | _, _, _, _, .lst (a := a) (as := as) (x := x) (xs := xs) (ts := ts) e l n, r, hz => by
    cases (show _ = Value.ref a from r)
    obtain ⟨_, its, m, rv, e1⟩ := (show ObjOk P w H h a (.lst (x :: xs)) from ok a _ e)
    have al := swl_repr ok X l rv (fun t ht => Nat.le_trans (listText_mem_le ht) hz)
    cases its with
    | nil => cases rv
    | cons y ys =>
      have k := ReprK.list e1 rfl rfl n (by simpa using al.length_eq) (fun i z q => all_at al i z (by simpa using q))
      exact k.level_le (by simp; omega)
  | _, _, _, _, .tup (a := a) (as := as) (xs := xs) (ts := ts) e l n, r, hz => by
    cases (show _ = Value.ref a from r)
    obtain ⟨_, its, rv, o, e1, e2, m, e3⟩ := (show ObjOk P w H h a (.tup xs) from ok a _ e)
    have al := swl_repr ok X l rv (fun t ht => Nat.le_trans (tupleText_mem_le ht) hz)
    have k := ReprK.tuple e1 e2 e3 n (by simpa using al)
    exact k.level_le (by simp; omega)
  | _, _, _, _, .dct (a := a) (as := as) (kvs := kvs) (ks := ks) (ts := ts) e l1 l n, r, hz => by
    cases (show _ = Value.ref a from r)
    obtain ⟨_, sy, vs, kv, ob, es, ep, e1, e2, e3, _, e4, _⟩ := (show ObjOk P w H h a (.dK kvs) from ok a _ e)
    obtain ⟨va, vb⟩ := keys_vals e4 kv
    have ll : ks.length = ts.length := by rw [← swl_len l1, ← swl_len l]; simp
    have a1 := swl_repr ok X l1 va (fun t ht => by
      obtain ⟨p, hp, hl⟩ := mem_l ll ht
      exact Nat.le_trans hl (Nat.le_trans (dictText_mem_le hp) hz))
    have a2 := swl_repr ok X l vb (fun t ht => by
      obtain ⟨p, hp, hl⟩ := mem_r ll ht
      exact Nat.le_trans hl (Nat.le_trans (dictText_mem_le hp) hz))
    have k := ReprK.dict e1 e2.1 e3 sy n (ents (all_more (fun b hb => absurd hb (by simp)) (by simp) a1) a2)
    exact k.level_le (by simp; omega)
  | _, _, _, _, .exc (a := a) (C := C) (t := t) (as := as) (xs := xs) (ts := ts) d e ed et R l n hl, r, hz => by
    cases (show _ = Value.ref a from r)
    obtain ⟨_, its, rv, o, e1, e2, m, e3⟩ := (show ObjOk P w H h t (.tup xs) from ok t _ et)
    obtain ⟨newId, bmB, T⟩ := R.cl
    obtain ⟨cd, hcd, hnm⟩ := R.cd
    subst hnm
    have al := swl_repr ok X l rv (fun t ht => Nat.le_trans (tupleText_mem_le ht) (Nat.le_trans (by rw [strLen_append]; exact Nat.le_add_left _ _) hz))
    have ho := exo_at ok e
    obtain ⟨mA, hns, rel⟩ := exd_at ok ed
    obtain ⟨od, hod, _⟩ := lookIn_ns hns
    have k := PySem.Exv.repr_exc (prog := P) (w := w) (e := a) (C := C) (t0 := t) X (fun hh kp => (⟨kp _ _ ho, rfl, rfl, kp _ _ hod⟩ : PySem.W.InstAt hh a _ C (some od))) hcd R.rp T.exC rfl rfl ⟨o, m, e1, e2, e3⟩ (by rw [← rv.length]; exact hl) n al
    exact k.level_le (by simp; omega)
theorem swl_repr (ok : HOk P w H h) (X : K.In h) : ∀ {as : List Addr} {xs : List V} {ts : List Str} {us : List Value}, SwL K H as xs ts → Vals xs us → (∀ t ∈ ts, t.length ≤ sizeLine) → ReprAllK P w as h (2 * as.length) us ts
  | _, _, _, _, .nil, r, _ => by cases r; exact .nil
  | _, _, _, _, .cons (as := as) (bs := bs) s l, r, hz => by
    cases r with
    | cons rx rr =>
      have k := sw_repr ok X s rx (hz _ (List.mem_cons_self ..))
      have al := swl_repr ok X l rr (fun t ht => hz t (List.mem_cons_of_mem _ ht))
      exact .cons ((k.more fun b hb => List.mem_append_left _ hb).level_le (by simp; omega)) (all_more (fun b hb => List.mem_append_right _ hb) (by simp; omega) al)
end
end
/-- repr of a list of at least one item -/
def rRepr (K : PySem.W.Frag) : List V → Hp → VK → Prop := fun xs H Q => ∃ (p : Addr) (as : List Addr) (ys : List V) (ts : List Str), xs = [.ref p] ∧ H p = some (.lst ys) ∧ SwL K H as ys ts ∧ ys ≠ [] ∧ p ∉ as ∧ as.length ≤ 30 ∧
  (listText ts).length ≤ sizeLine ∧ Q (.str (listText ts)) H
section
variable {X : Cx}
theorem call_repr (hg : X.A.guards = some []) (hu : X.A.units + 200 < cLine) : CallR X (.builtin "repr") (rRepr X.K) := by
  intro pins s σ H xs us Q I r h
  obtain ⟨p, as, ys, ts, rfl, hp, l, ne, hn, ha, hz, q⟩ := h
  obtain ⟨u, rfl, e⟩ := vals1 r
  cases (show u = Value.ref p from e)
  obtain ⟨_, its, m, rv, e1⟩ := (show ObjOk X.prog X.w H s.heap p (.lst ys) from I.hok p _ hp)
  have al := swl_repr I.hok I.kIn l rv (fun t ht => Nat.le_trans (listText_mem_le ht) hz)
  cases its with
  | nil => cases rv; exact absurd rfl ne
  | cons y yr =>
    refine call_repr_slot (by omega) ⟨_, e1, rfl⟩ F.slot_list_repr.toG ?_
    refine call_list_reprK (A := X.A.in1) e1 rfl rfl hn (by simpa using al.length_eq) (fun i z q => all_at al i z (by simpa using q)) (g := []) (by simpa using hg) (fun b _ => Clear.nil b) (by show X.A.units + 1 + (2 * as.length + 1) < cLine; omega)
      (fun _ _ e => e) (fun h' u tk kp => ⟨_, _, rfl, ⟨.str (listText ts), H, I.kept (t' := tk) kp, ⟨_, rfl⟩, q⟩⟩) hz
end
end Rp

set_option Elab.async false
set_option linter.all false
set_option maxRecDepth 100000
set_option maxHeartbeats 4000000
namespace Lay
open PySem L2
/-- a comprehension whose elements are told by themselves -/
theorem lc_pure {J : It} {n : Nat} {G : Hp → Prop} {Y : Nat → Hp → V → Hp → Prop} (wk : Walk J n G Y) {g : TG} {tt : TT} {te : TE} {vs : List Nat} {σ : L2.St} {H1 : Hp} {D : Addr} {Qd : Hp → Prop} (nD : H1 D = none) (hn : n < 100000)
    (hG : ∀ H, L2.Same H1 H → G H) (R : Nat → V → Prop)
    (hs : ∀ i x H H' (Kn : V → Hp → Prop) (Z : Hp → Prop), i < n → L2.Same H1 H → Y i H x H' → (∀ y H4, L2.Same H H4 → R i y → Kn y H4) →
      g x (wipe σ vs) H' fun σ2 H2 => wipe σ2 vs = wipe σ vs ∧ tt σ2 H2 fun b H3 => if b = true then te σ2 H3 Kn else Z H3)
    (hd : ∀ H xs, L2.Same H1 H → H D = some (.lst xs) → xs.length = n → (∀ i y, xs[i]? = some y → R i y) → Qd H) :
    ∃ W : Nat → Nat → Hp → Prop, (∃ m, W 0 m (upd H1 D (.lst []))) ∧ ∀ i m H, W i m H →
      (J.stop i H ∧ Qd H) ∨ (J.go i H ∧ ∃ Nx : Hp → Prop, (∀ H', Nx H' → ∃ m', m' < m ∧ W (i + 1) m' H') ∧ ∀ x H', J.yld i H x H' → g x (wipe σ vs) H' fun σ2 H2 => wipe σ2 vs = wipe σ vs ∧ tt σ2 H2 fun b H3 =>
        if b = true then te σ2 H3 fun y H4 => ∃ acc, H4 D = some (.lst acc) ∧ acc.length < sizeLine ∧ Nx (upd H4 D (.lst (acc ++ [y]))) else Nx H3) := by
  refine lc_it wk (fun i H => L2.Same H1 H ∧ ∃ xs, H D = some (.lst xs) ∧ xs.length = i ∧ ∀ j y, xs[j]? = some y → R j y) ?_ ?_ ?_ ?_
  · exact ⟨Same.new nD, [], upd_same, rfl, fun j y e => by simp at e⟩
  · exact fun i H _ h => hG H h.1
  · intro i x H H' hi ⟨sm, xs, hD, hl, hr⟩ y
    refine hs i x H H' _ _ hi sm y fun v H4 h4 hv => ⟨xs, h4 _ _ hD, by rw [hl]; exact Nat.lt_trans (Nat.lt_trans hi hn) (by decide), ?_⟩
    refine ⟨Same.mut (sm.trans h4) nD, xs ++ [v], upd_same, by simp [hl], fun j y e => ?_⟩
    by_cases hj : j < xs.length
    · rw [List.getElem?_append_left hj] at e
      exact hr j y e
    · rw [List.getElem?_append_right (by omega)] at e
      have hj2 : j - xs.length = 0 := by
        cases hk : j - xs.length with
        | zero => rfl
        | succ m => rw [hk] at e; simp at e
      rw [hj2] at e
      simp at e
      subst e
      have : j = i := by omega
      subst this
      exact hv
  · intro H ⟨sm, xs, hD, hl, hr⟩
    exact hd H xs sm hD hl hr
/-- all elements by a function -/
theorem eq_map {xs : List V} {n : Nat} {f : Nat → V} (hl : xs.length = n) (h : ∀ i y, xs[i]? = some y → y = f i) : xs = (List.range n).map f := by
  apply List.ext_getElem?
  intro i
  by_cases hi : i < n
  · have e := List.getElem?_eq_getElem (show i < xs.length by omega)
    rw [e, h i _ e, List.getElem?_map, List.getElem?_range hi]; rfl
  · rw [List.getElem?_eq_none (by omega), List.getElem?_eq_none (by simp; omega)]
theorem stopW {p : (Nat → Nat → L2.St → Hp → Prop) → Prop} (h : Exists p) : Exists p := h
theorem stopC {p : (Nat → Nat → Hp → Prop) → Prop} (h : Exists p) : Exists p := h
theorem un200 {k : Nat} {B : Around} (hr : Room k B) : B.units + 200 < cLine := by
  have := hr.un
  omega
end Lay

set_option Elab.async false
set_option linter.all false
set_option maxRecDepth 100000
set_option maxHeartbeats 4000000
namespace PySem.W
open PySem PySem.Calls PyProof.Rows Builtin
section
variable {prog : Program} {w : World} {M : Model} {A : Around} {E : Value → Shared → Prop} {s : Shared} {K : Frag} {x C f : Addr} {ox : Obj} {od : Option Obj} {y : Value}
/-- x in o, o of an own class that says it itself -/
theorem own_contains {Q : Bool → Shared → Prop} (X : K.In s.heap) (I : InstAt s.heap x ox C od) (hs : findIn K (.ref C) "__contains__" = some (some (.ref f))) (hf : isFn K (.ref f) = true)
    (h : wpAny M A (call (.ref f) [.ref x, y]) (fun v s' => ∃ b, v = .bool b ∧ Q b s') E s) : wpAny M A (contains (.ref x) y) Q E s := by
  unfold contains
  refine wpAny_holding ?_
  simp only [stdlibNamesSay?]
  refine wpAny_bind (wpAny_bind (I.type.here ((looks_findIn X hs).here ?_)))
  rw [if_neg (by simp)]
  refine wpAny_bind (m := callSpecialUnlessNone? (.ref x) (Str.ofString "__contains__") [y] _) ?_
  unfold callSpecialUnlessNone?
  refine wpAny_bind (wpAny_bind (I.type.here ((looks_findIn X hs).here ?_)))
  refine wpAny_holding (wpAny_bind ((bind_fn X _ (beq_iff_eq.mp hf)).here ?_))
  dsimp only
  rw [if_neg (by simp)]
  refine wpAny_bind (wpAny_mono h (fun v s' hv => ?_) fun _ _ e => e)
  obtain ⟨b, rfl, hq⟩ := hv
  exact wpAny_pure (wpAny_truthy_bool hq)
/-- what own == makes of != -/
theorem own_ne {tb b : Value} {Q : Value → Shared → Prop} (hu : A.units + 1 < cLine) (X : K.In s.heap) (I : InstAt s.heap x ox C od) (hb : Looks (model prog w) s.heap (typeOf b) tb) (hn : notFirst K C tb = true)
    (hs : findIn K (.ref C) "__eq__" = some (some (.ref f))) (hf : isFn K (.ref f) = true) (hne : findIn K (.ref C) "__ne__" = some (some (.builtin "object.__ne__"))) (hm : mroIn K C (.type "object") = some true)
    (h : wpAny (model prog w) A.in1 (call (.ref f) [.ref x, b]) (fun v s' => ∃ r, v = .bool r ∧ Q (.bool (!r)) s') E s) : wpAny (model prog w) A (richCompare .NotEq (.ref x) b) Q E s := by
  have sub : Looks (model prog w) s.heap (isInstance (.ref x) (.type "object")) true := I.type.andThen (looks_mroIn X hm)
  have bnd : ∀ self, bindSpecial (.builtin "object.__ne__") self = pure (.builtin "object.__ne__", [self]) := PySem.F.cmp_object.ne.toG.bind
  have one : wpAny (model prog w) A (tryCompare (.ref x) "__ne__" b) (fun r s' => ∃ v, r = some v ∧ Q v s') E s := by
    unfold tryCompare
    refine wpAny_bind (m := callSpecialIfBound? (.ref x) (Str.ofString "__ne__") [b]) ?_
    simp only [callSpecialIfBound?, bindSpecialIfBound?]
    refine wpAny_holding (wpAny_bind (wpAny_bind (wpAny_bind (I.type.here ((looks_findIn X hne).here ?_)))))
    simp only [bnd]
    have core : wpAny (model prog w) A (call (.builtin "object.__ne__") [.ref x, b]) (fun v s' => ∃ r, v = .bool r ∧ Q (.bool r) s') E s := by
      refine wpAny_call (codeAny_call_builtin PySem.F.cmp_object.ne.plain F.cmpEntry_ne (@check_slot (model prog w) _ _ s "object.__ne__" "object" "__ne__" (.ref x) [b] [] _ F.cmpKind_ne F.cmpSplit_ne sub (F.cmpArgs_ne _ _) ?_))
      unfold Builtin.«object.__ne__»
      refine wpAny_bind (m := slotArgs "__ne__" 1 _) (wpAny_pure ?_)
      refine wpAny_bind (wpAny_cRoomFor hu ?_)
      refine wpAny_bind (m := callSpecialIfBound? (.ref x) (Str.ofString "__eq__") [b]) (ifBound_K X I hs hf (wpAny_mono h (fun v s' hv => ?_) fun _ _ e => e))
      obtain ⟨r, rfl, hq⟩ := hv
      refine wpAny_bind (wpAny_truthy_bool ?_)
      exact wpAny_pure ⟨_, rfl, hq⟩
    have fin : wpAny (model prog w) A (call (.builtin "object.__ne__") ([.ref x] ++ [b]) >>= fun v => pure (some v))
        (fun r s' => wpAny (model prog w) A (match r with | some .notImplemented | none => pure none | some v => pure (some v)) (fun r s' => ∃ v, r = some v ∧ Q v s') E s') E s := by
      refine wpAny_bind (wpAny_mono core (fun v s' hv => wpAny_pure ?_) fun _ _ e => e)
      obtain ⟨r, rfl, hq⟩ := hv
      exact wpAny_pure ⟨_, rfl, hq⟩
    refine wpAny_bind (wpAny_askSetting (wpAny_ite ?_))
    split
    · exact wpAny_bind (wpAny_pure (wpAny_pure fin))
    · exact wpAny_tryCatch (wpAny_bind (wpAny_pure (wpAny_pure fin)))
  unfold richCompare
  simp only [oneThing_ref]
  refine wpAny_holding (wpAny_bind (wpAny_cRoomFor (Nat.lt_of_succ_lt hu) ?_))
  refine wpAny_bind (I.type.here (wpAny_bind (hb.here ?_)))
  split
  · rename_i q
    have e : subIn K tb (.ref C) = some false := by
      rcases Bool.or_eq_true_iff.mp hn with e | e
      · rw [beq_iff_eq.mp e] at q; simp at q
      · exact beq_iff_eq.mp e
    refine wpAny_bind ((looks_subIn X e).here ?_)
    simp only [Bool.false_eq_true, if_false]
    refine wpAny_bind (wpAny_mono one (fun r s' z => ?_) fun _ _ e => e)
    obtain ⟨v, rfl, hq⟩ := z
    exact wpAny_pure hq
  · refine wpAny_bind (wpAny_pure ?_)
    simp only [Bool.false_eq_true, if_false]
    refine wpAny_bind (wpAny_mono one (fun r s' z => ?_) fun _ _ e => e)
    obtain ⟨v, rfl, hq⟩ := z
    exact wpAny_pure hq
end
end PySem.W

set_option Elab.async false
set_option linter.all false
set_option maxRecDepth 100000
set_option maxHeartbeats 4000000
namespace Rp
open PySem L2 Lay Exv
/-- repr of a list, empty or not -/
def rReprE (K : PySem.W.Frag) : List V → Hp → VK → Prop := fun xs H Q => rRepr K xs H Q ∨ ∃ p, xs = [.ref p] ∧ H p = some (.lst []) ∧ Q (.str "[]") H
theorem call_reprE {X : Cx} (hg : X.A.guards = some []) (hu : X.A.units + 200 < cLine) : CallR X (.builtin "repr") (rReprE X.K) := by
  intro pins s σ H xs us Q I r h
  rcases h with h | ⟨p, rfl, hp, q⟩
  · exact call_repr hg hu pins s σ H xs us Q I r h
  · obtain ⟨u, rfl, e⟩ := vals1 r
    cases (show u = Value.ref p from e)
    obtain ⟨_, its, m, rv, e1⟩ := (show ObjOk X.prog X.w H s.heap p (.lst []) from I.hok p _ hp)
    cases rv
    refine call_repr_slot (by omega) ⟨_, e1, rfl⟩ F.slot_list_repr.toG ?_
    exact call_list_repr_empty ⟨_, e1, rfl⟩ e1 rfl ⟨_, _, rfl, ⟨.str "[]", H, I.tok _, ⟨_, rfl⟩, q⟩⟩
end Rp

set_option Elab.async false
set_option linter.all false
set_option maxRecDepth 100000
set_option maxHeartbeats 4000000
namespace Own
open PySem L2 Lay PySem.Spec PyProof.Rows ClX
/-! ### a def called with values by place, no text of an object being made -/
def FnP (P : Program) (w : World) (K : PySem.W.Frag) (mg : Str → Option Value) (base : Heap) (k : Nat) (g : Addr) (sp : Sp) : Prop :=
  ∀ (A : Around) (outer : List Env) (s : Shared) (H : Hp) (us : List Value) (vs : List V) (Q : VK) (E : XK), Room k A → A.guards = some [] → Env0 P w K mg base A outer s H → Vals vs us → sp vs H Q E →
    codeAny (model P w) A (.call (.ref g) ⟨us, []⟩) (CR CX0 outer P w H s Q E) s
section
variable {P : Program} {w : World} {K : PySem.W.Frag} {mg : Str → Option Value} {base : Heap} {j k : Nat} {g : Addr} {fd : FuncData} {ps : List Str} {sp sp' : Sp}
theorem FnP.ofG (F : FnG P w K mg base CX0 k g fd ps sp) (b : Binds K fd ps []) : FnP P w K mg base k g sp := by
  intro A outer s H us vs Q E hr hg e0 r h
  have hl : (us ++ []).length = ps.length := by rw [List.append_nil, ← r.length]; exact F.len _ _ _ _ h
  have b1 := b s us (e0.mod.kin.keeps fun b o e => (e0.bs b o e).1) hl
  rw [List.append_nil] at b1
  exact F.run A outer s H ⟨us, []⟩ us vs Q E hr hg e0 b1 r h
theorem FnP.mono (F : FnP P w K mg base j g sp) (h : j ≤ k) : FnP P w K mg base k g sp := fun A outer s H us vs Q E hr => F A outer s H us vs Q E (hr.mono h)
theorem FnP.imp (F : FnP P w K mg base k g sp) (h : ∀ vs H Q E, sp' vs H Q E → sp vs H Q E) : FnP P w K mg base k g sp' := fun A outer s H us vs Q E hr hg e0 r hs => F A outer s H us vs Q E hr hg e0 r (h _ _ _ _ hs)
/-- def f(a, .., *v) -/
theorem fnP_star {f : Addr} {name qual : Str} {params : Arguments} {body : List Stmt} {scope : Scope} {dV kV doc pm cdv ct oc : Value} {an od : Option Addr} {osl : Array (Option Value)} {N : List Str} {pv : Str}
    (lk : K.lookup f = some ⟨oc, od, .func (PySem.W.fnOf name qual params body scope dV kV doc pm an cdv ct), osl⟩) (hcd : PySem.W.codeIn K cdv qual = true) (S : FnScope N (ps ++ [pv]) scope)
    (hb : ∀ us rest : List Value, us.length = ps.length → bindArgs (PySem.W.fnOf name qual params body scope dV kV doc pm an cdv ct) ⟨us ++ rest, []⟩ = (newTuple rest >>= fun t => pure (ps.zip us ++ [(pv, t)])))
    (hbody : ∀ (A : Around) (outer : List Env) (s : Shared) (H : Hp) (vs : List V) (Q : VK) (E : XK), Room k (A.deeper (envOfC qual scope s.heap.objs.size f cdv)) → A.guards = some [] → sp vs H Q E →
      ∃ t, PSs (cxOf CX0 P w K mg base N qual scope f cdv A outer s H E) body t ∧ t { nx := fun _ H' => Q .non H', rt := Q } (start N vs) H) :
    FnP P w K mg base (k + 1) f (fun vs H Q E => ∃ ws rest, vs = ws ++ rest ∧ ws.length = ps.length ∧ rest.length ≤ sizeLine ∧ ∀ p, H p = Option.none → sp (ws ++ [V.ref p]) (upd H p (.tup rest)) Q E) := by
  intro A outer s H us vs Q E hr hg e0 r hsp
  obtain ⟨ws, rest, ev, hl, hz, hq⟩ := hsp
  subst ev
  obtain ⟨u1, u2, eu, r1, r2⟩ := StX.vals_split r
  subst eu
  have hn : H s.heap.objs.size = Option.none := e0.hok.fresh (Nat.le_refl _)
  have hl1 : u1.length = ps.length := by rw [← r1.length]; exact hl
  have hl2 : u2.length ≤ sizeLine := by rw [← r2.length]; exact hz
  refine StX.run_bnd lk hcd S hr e0 (G := fun xs H2 => ∃ p, H p = Option.none ∧ xs = ws ++ [V.ref p] ∧ H2 = upd H p (.tup rest)) (fun A' Ex Q' h => ?_) fun s2 H2 xs ⟨p, hp, ex, eH⟩ hr' => ?_
  · rw [hb u1 u2 hl1]
    refine wpAny_bind (wpAny_newTuple (wpAny_pure ?_) hl2)
    have new : ObjOk P w (upd H s.heap.objs.size (.tup rest)) (s.heap.push ({ cls := .type "tuple", data := .seq u2.toArray } : Obj)) s.heap.objs.size (.tup rest) := ⟨hz, u2, r2, ⟨_, Heap.get?_push_size _ rfl, rfl, _, rfl⟩⟩
    have un := StX.un_laid (fs := frs outer) (s := s) (o := ({ cls := .type "tuple", data := .seq u2.toArray } : Obj)) (u := .tup rest) hn
    have z := h _ _ (ws ++ [V.ref s.heap.objs.size]) (u1 ++ [Value.ref s.heap.objs.size]) (StX.env0_laid e0 new) un rfl (fun e s' z => z) (r1.append (.cons rfl .nil))
      (by rw [List.length_append, List.length_append, hl] <;> rfl) ⟨_, hn, rfl, rfl⟩
    rw [List.zip_append hl1.symm] at z
    exact z
  · subst ex eH
    exact hbody A outer s2 _ _ Q E hr' hg (hq p hp)
end
section
variable {X : Cx} {k : Nat} {f g C : Addr} {sp : Sp} {pins : List (Addr × Obj)} {σ : L2.St} {H : Hp} {s : Shared} {Q : VK} {us : List Value} {vs : List V}
theorem run_P {A : Around} (F : FnP X.prog X.w X.K X.mg X.base k g sp) (hr : Room k A) (hg : A.guards = some []) (e0 : Env0 X.prog X.w X.K X.mg X.base A X.stack s H) (I : Inv X pins σ H s) (r : Vals vs us) (h : sp vs H Q E0) :
    codeAny (model X.prog X.w) A (.call (.ref g) ⟨us, []⟩) (fun r s' => match r with | .ok (.ret v) => EP X pins σ Q v s' | .ok _ => False | .error x => X.xe x s') s := by
  refine codeAny_mono (F A X.stack s H us vs Q E0 hr hg e0 r h) fun r s' hq => ?_
  cases r with
  | error e => exact False.elim hq
  | ok fl =>
    cases fl with
    | ret u => exact I.after hq
    | next => exact False.elim hq
    | brk => exact False.elim hq
    | cont => exact False.elim hq
theorem g_under {A : Around} {a : Args} (hg : A.guards = some []) : (A.under (.builtin "type.__call__" a)).guards = some [] := by
  have e : Code.isGuard (.builtin "type.__call__" a) = false := by first | rfl | (show List.contains _ _ = false; decide +kernel)
  have e2 : Code.guards (.builtin "type.__call__" a) = [] := by unfold Code.guards; rw [e]; rfl
  have z : (A.under (.builtin "type.__call__" a)).guards = pushGuards (Code.guards (.builtin "type.__call__" a)) A.guards := by unfold Around.under; rfl
  rw [z, e2, hg]; rfl
theorem g_in1 {A : Around} (hg : A.guards = some []) : A.in1.guards = some [] := by simpa using hg
/-! ### making -/
def tMakeP (C : Addr) (sp : Sp) (t : TA) : TE := fun σ H Q => t σ H fun vs H1 => ∀ x dx, H1 x = Option.none → H1 dx = Option.none → dx ≠ x →
  sp (V.ref x :: vs) (upd (upd H1 dx (.own x)) x (.ins C dx [])) (fun v H2 => v = .non ∧ Q (.ref x) H2) E0
theorem run_makeP (M : Mk X.K C f) (F : FnP X.prog X.w X.K X.mg X.base k f sp) (hr : Room (k + 1) X.A) (hg : X.A.guards = some []) (I : Inv X pins σ H s) (r : Vals vs us)
    (h : ∀ x dx, H x = Option.none → H dx = Option.none → dx ≠ x → sp (V.ref x :: vs) (upd (upd H dx (.own x)) x (.ins C dx [])) (fun v H2 => v = .non ∧ Q (.ref x) H2) E0) :
    wpAny (model X.prog X.w) X.A (call (.ref C) us) (EP X pins σ Q) X.xe s := by
  have hq := h (s.heap.objs.size + 1) s.heap.objs.size (I.hok.fresh (Nat.le_succ _)) (I.hok.fresh (Nat.le_refl _)) (Nat.ne_of_lt (Nat.lt_succ_self _))
  have I2 := Inv.made (C := C) I
  have r2 : Vals (V.ref (s.heap.objs.size + 1) :: vs) (Value.ref (s.heap.objs.size + 1) :: us) := .cons rfl r
  refine wpAny_call (make_map (f := f) I.kIn M.makes M.init (beq_iff_eq.mp M.fn) (codeAny_mono (F _ X.stack _ _ (Value.ref (s.heap.objs.size + 1) :: us) _ _ E0 (hr.make C us []) (g_under hg) (I2.env0.make C us []) r2 hq) fun r s' hq' => ?_))
  cases r with
  | error e => exact False.elim hq'
  | ok fl =>
    cases fl with
    | ret u =>
      obtain ⟨v, H', I3, rv, ev, q3⟩ := I2.after hq'
      subst ev
      exact ⟨rv, ⟨V.ref (s.heap.objs.size + 1), H', I3, rfl, q3⟩⟩
    | next => exact False.elim hq'
    | brk => exact False.elim hq'
    | cont => exact False.elim hq'
end
section
variable {X : Cx} {k : Nat} {f g C p : Addr} {mc : Value} {sp : Sp} {x m : Str} {o e : Expr} {es : List Expr} {t ta : TA} {te : TE} {pos apos sp_ p1 : Pos} {pl : Sem Bool}
/-- C(e, ..) -/
theorem pe_makeP (M : Mk X.K C f) (F : FnP X.prog X.w X.K X.mg X.base k f sp) (hr : Room (k + 1) X.A) (hgd : X.A.guards = some []) (hm : X.mg x = some (.ref C)) (ha : PA X (e :: es) t) (hg : Gl X x := by rfl) (hdb : (x == ("__debug__" : Str)) = false := by decide)
    (he : starEach (e :: es) X.env = (false, eval e X.env) :: starEach es X.env := by rfl) (hpl : (backTo pos (starEach es X.env)).any (·.1) = false := by rfl) : PE X (.Call (.Name x p1) (e :: es) [] pos) (tMakeP C sp t) := by
  refine ⟨fun pins s σ H Q I h => ?_⟩
  refine wpAny_Call_Name_kw (ld_glob I hg hm ?_ hdb)
  refine PySem.W.callWith_K (h₀ := X.base) I.ok.mod.kin M.kp (thn (ha.run pos pins s σ H _ I h) fun us s1 ⟨vs, H1, I1, r, q⟩ => ⟨I1.kIn, ?_⟩) he hpl
  exact run_makeP M F hr hgd I1 r q
/-- C(*e) -/
def tStar1 (K : PySem.W.Frag) (te : TE) : TA := fun σ H Q => te σ H fun y H1 => ∃ a xs, y = V.ref a ∧ (SqT K H1 a xs ∨ SqL K H1 a xs) ∧ Q xs H1
theorem pe_makeS (M : Mk X.K C f) (F : FnP X.prog X.w X.K X.mg X.base k f sp) (hr : Room (k + 1) X.A) (hgd : X.A.guards = some []) (hm : X.mg x = some (.ref C)) (he : PE X e te) (hg : Gl X x := by rfl) (hdb : (x == ("__debug__" : Str)) = false := by decide)
    (hst : starEach [.Starred e sp_] X.env = [(true, eval e X.env)] := by rfl) : PE X (.Call (.Name x p1) [.Starred e sp_] [] pos) (tMakeP C sp (tStar1 X.K te)) := by
  refine ⟨fun pins s σ H Q I h => ?_⟩
  refine wpAny_Call_Name_kw (ld_glob I hg hm ?_ hdb)
  refine PySem.W.callWith_S (h₀ := X.base) I.ok.mod.kin M.kp (thn (he.run pins s σ H _ I h) fun v s1 ⟨y, H1, I1, ry, a, xs, ey, hxs, q⟩ => ?_) hst
  subst ey
  obtain rfl : v = Value.ref a := ry
  exact StX.star_any I1 hxs fun us s2 I2 rv => ⟨I2.kIn, run_makeP M F hr hgd I2 rv q⟩
/-! ### methods -/
def tMethP (C : Addr) (m : Str) (sp : Sp) (te : TE) (t : TA) : TE := fun σ H Q => te σ H fun x H1 => ∃ a dx fs, x = .ref a ∧ H1 a = some (.ins C dx fs) ∧ fs.lookup m = none ∧ t σ H1 fun vs H2 => sp (.ref a :: vs) H2 Q E0
/-- o.m() -/
theorem pe_methP0 (he : PE X o te) (c : Cls X.K C) (hm : Meth X.K C m f) (F : FnP X.prog X.w X.K X.mg X.base k f sp) (hr : Room k X.A) (hgd : X.A.guards = some [])
    (ht : eval (.Call (.Attribute o m apos) [] [] pos) X.env = (do
      let ov ← eval o X.env
      standAt apos.atName
      let (f, first) ← holding [ov] (getMethod ov m pl)
      callWith pos f first (backTo pos (starEach [] X.env)) (backToKw pos (keywordEach [] X.env))) := by rfl) :
    PE X (.Call (.Attribute o m apos) [] [] pos) (tMethP C m sp te tNil) := by
  refine ⟨fun pins s σ H Q I h => ?_⟩
  refine PySem.W.methodCall_KW (pl := pl) (thn (he.run pins s σ H _ I h) fun u s1 ⟨x, H1, I1, rx, a, dx, fs, ex, ea, l, q⟩ => ?_) ht
  subst ex
  obtain rfl : u = Value.ref a := rx
  refine getmeth_ok I1 ea c hm l ?_
  exact PySem.W.callWith_K0 (first := [.ref a]) I1.kIn hm.kp (wpAny_call (run_P (us := [.ref a]) (vs := [.ref a]) F hr hgd I1.env0 I1 (.cons rfl .nil) q))
/-- C.m is a staticmethod: its record at p, its def at g -/
structure CSta (K : PySem.W.Frag) (C : Addr) (mc : Value) (m : Str) (p g : Addr) : Prop where
  at_ : PySem.W.findCls K (.ref C) mc m = some (.get (.builtin "staticmethod.__get__") (.ref p) .none (.ref C))
  rc : ∃ rest, PySem.W.recIn K p "staticmethod" = some (.ref g :: rest)
  kp : PySem.W.keepIn K (.ref g) = true
theorem getmethst_ok {pins : List (Addr × Obj)} {σ : L2.St} {H : Hp} {s : Shared} {A : Around} {E : Value → Shared → Prop} {Q : Value × List Value → Shared → Prop} (I : Inv X pins σ H s) (r : CRead X.K C mc) (c : CSta X.K C mc m p g)
    (h : ∀ s', Inv X pins σ H s' → Q (.ref g, []) s') : wpAny (model X.prog X.w) A (getMethod (.ref C) m pl) Q E s := by
  obtain ⟨rest, hp⟩ := c.rc
  refine PySem.W.method_cls I.kIn r.ga (PySem.W.cls_bind I.kIn r.rd c.at_ ?_)
  refine wpAny_call (PySem.W.sm_get (s := { s with toks := s.toks + 1 }) I.kIn hp (PySem.W.handed_on rfl ?_))
  exact h _ (I.tok _)
def tStaP (C : Addr) (sp : Sp) (te : TE) (t : TA) : TE := fun σ H Q => te σ H fun x H1 => x = .ref C ∧ t σ H1 fun vs H2 => sp vs H2 Q E0
/-- C.m(e, ..) -/
theorem pe_staP (he : PE X o te) (r : CRead X.K C mc) (c : CSta X.K C mc m p g) (F : FnP X.prog X.w X.K X.mg X.base k g sp) (hr : Room k X.A) (hgd : X.A.guards = some []) (ha : PA X (e :: es) t)
    (hst : starEach (e :: es) X.env = (false, eval e X.env) :: starEach es X.env := by rfl) (hpl : (backTo pos (starEach es X.env)).any (·.1) = false := by rfl)
    (ht : eval (.Call (.Attribute o m apos) (e :: es) [] pos) X.env = (do
      let ov ← eval o X.env
      standAt apos.atName
      let (f, first) ← holding [ov] (getMethod ov m pl)
      callWith pos f first (backTo pos (starEach (e :: es) X.env)) (backToKw pos (keywordEach [] X.env))) := by rfl) :
    PE X (.Call (.Attribute o m apos) (e :: es) [] pos) (tStaP C sp te t) := by
  refine ⟨fun pins s σ H Q I h => ?_⟩
  refine PySem.W.methodCall_KW (pl := pl) (thn (he.run pins s σ H _ I h) fun u s1 ⟨x, H1, I1, rx, ex, q⟩ => ?_) ht
  subst ex
  obtain rfl : u = Value.ref C := rx
  refine getmethst_ok I1 r c fun s2 I2 => ?_
  refine PySem.W.callWith_K (first := []) (h₀ := X.base) I2.ok.mod.kin c.kp (thn (ha.run pos pins s2 σ H1 _ I2 q) fun us s3 ⟨vs, H2, I3, rv, q2⟩ => ⟨I3.kIn, ?_⟩) hst hpl
  exact wpAny_call (run_P F hr hgd I3.env0 I3 rv q2)
/-- C.m(k = e) -/
theorem pe_staK {fd : FuncData} {q : Str} {kws : List Keyword} {tk : TA} (he : PE X o te) (r : CRead X.K C mc) (c : CSta X.K C mc m p g) (F : FnG X.prog X.w X.K X.mg X.base CX0 k g fd [q] sp) (b : Kw1 fd [q]) (hr : Room k X.A) (hgd : X.A.guards = some [])
    (hkw : PK X kws tk) (hall : (backToKw pos (keywordEach kws X.env)).all (·.1.isSome) = true := by rfl) (hks : (backToKw pos (keywordEach kws X.env)).filterMap (·.1) = [q] := by rfl)
    (hpl : ((backTo pos (starEach [] X.env)).any (·.1) || (backToKw pos (keywordEach kws X.env)).any (·.1.isNone)) = false := by rfl)
    (ht : eval (.Call (.Attribute o m apos) [] kws pos) X.env = (do
      let ov ← eval o X.env
      standAt apos.atName
      let (f, first) ← holding [ov] (getMethod ov m pl)
      callWith pos f first (backTo pos (starEach [] X.env)) (backToKw pos (keywordEach kws X.env))) := by rfl) :
    PE X (.Call (.Attribute o m apos) [] kws pos) (tStaP C sp te tk) := by
  refine ⟨fun pins s σ H Q I h => ?_⟩
  refine PySem.W.methodCall_KW (pl := pl) (thn (he.run pins s σ H _ I h) fun u s1 ⟨x, H1, I1, rx, ex, q⟩ => ?_) ht
  subst ex
  obtain rfl : u = Value.ref C := rx
  refine getmethst_ok I1 r c fun s2 I2 => ?_
  refine PySem.W.callWith_KW0 (h₀ := X.base) I2.ok.mod.kin c.kp hall ?_ hpl
  refine thn (hkw.run pos pins s2 σ H1 _ I2 q) fun ws s3 ⟨zs, H2, I3, rz, q2⟩ => ⟨I3.kIn, ?_⟩
  rw [hks]
  have hl : zs.length = 1 := F.len _ _ _ _ q2
  cases rz with
  | nil => cases hl
  | @cons z u zr ur h1 rest =>
    cases rest with
    | cons _ _ => cases hl
    | nil =>
      have b1 : BindsTo s3 fd ⟨[], [(_, u)]⟩ ([_].zip [u]) := .of_eq (b _ u rfl)
      exact wpAny_call (run_G (us' := [u]) (vs' := [z]) F hr hgd I3 b1 (.cons h1 .nil) q2)
/-! ### properties -/
def tPropP (C : Addr) (sp : Sp) (te : TE) : TE := fun σ H Q => te σ H fun x H1 => ∃ a dx fs, x = .ref a ∧ H1 a = some (.ins C dx fs) ∧ sp [.ref a] H1 Q E0
theorem pe_propP (he : PE X e te) (c : Cls X.K C) (hp : PropOf X.K C m p g) (F : FnP X.prog X.w X.K X.mg X.base k g sp) (hr : Room (k + 1) X.A) (hgd : X.A.guards = some [])
    (hab : attributeBase e m X.env (eval e X.env) = eval e X.env := by rfl) : PE X (.Attribute e m pos) (tPropP C sp te) := by
  refine ⟨fun pins s σ H Q I h => ?_⟩
  refine attr_of hab (thn (he.run pins s σ H _ I h) fun u s1 ⟨x, H1, I1, rx, a, dx, fs, ex, ea, q⟩ => ?_)
  subst ex
  obtain rfl : u = Value.ref a := rx
  obtain ⟨mA, O, _, _, _, _⟩ := ins_get I1.hok ea
  obtain ⟨od, J, _⟩ := O.look
  obtain ⟨rest, hrec⟩ := hp.rec_
  have I2 := I1.tok (s1.toks + 1)
  have hc : (PySem.W.clsIn X.K C).isSome = true := by
    obtain ⟨cd, hc, _⟩ := PySem.W.any_some c.hd
    rw [hc]
    rfl
  refine PySem.W.get_bind I1.kIn J (PySem.W.plainGet_of (c.get m)).1 (PySem.W.findObj_data hc hp.at_ hp.get hp.tak) (PySem.W.plainGet_of (c.get m)).2 (wpAny_call (PySem.W.prop_get (s := { s1 with toks := s1.toks + 1 }) I1.kIn hrec ?_))
  refine codeAny_mono (F X.A.in1 X.stack { s1 with toks := s1.toks + 1 } H1 [.ref a] [.ref a] Q E0 hr.in1 (g_in1 hgd) I2.env0.in1 (.cons rfl .nil) q) fun r s' hq => ?_
  cases r with
  | error er => exact False.elim hq
  | ok fl =>
    cases fl with
    | ret u =>
      obtain ⟨v, H', I3, rv, q3⟩ := I2.after hq
      show wpAny _ _ (handedOut u) _ _ _
      rw [PySem.W.handedOut_of (handed_of rv)]
      exact wpAny_pure ⟨v, H', I3, rv, q3⟩
    | next => exact False.elim hq
    | brk => exact False.elim hq
    | cont => exact False.elim hq
end
end Own

set_option Elab.async false
set_option linter.all false
set_option maxRecDepth 100000
set_option maxHeartbeats 4000000
namespace Own
open PySem L2 Lay PySem.Spec PyProof.Rows SrtO
/-! ### the order of texts, of entries -/
def strLt (x y : Str) : Bool := decide (x.cps.toList < y.cps.toList)
theorem nl_irr : ∀ l : List Nat, ¬ l < l
  | [] => fun h => by cases h
  | a :: l => fun h => by
    cases h with
    | rel h => exact Nat.lt_irrefl _ h
    | cons h => exact nl_irr l h
theorem nl_tr : ∀ {a b c : List Nat}, a < b → b < c → a < c
  | _, _, _, .nil, .rel _ => .nil
  | _, _, _, .nil, .cons _ => .nil
  | _, _, _, .rel h, .rel h' => .rel (Nat.lt_trans h h')
  | _, _, _, .rel h, .cons _ => .rel h
  | _, _, _, .cons _, .rel h => .rel h
  | _, _, _, .cons h, .cons h' => .cons (nl_tr h h')
theorem nl_tri : ∀ a b : List Nat, a < b ∨ a = b ∨ b < a
  | [], [] => .inr (.inl rfl)
  | [], _ :: _ => .inl .nil
  | _ :: _, [] => .inr (.inr .nil)
  | x :: a, y :: b => by
    rcases Nat.lt_trichotomy x y with h | h | h
    · exact .inl (.rel h)
    · subst h
      rcases nl_tri a b with h | h | h
      · exact .inl (.cons h)
      · subst h; exact .inr (.inl rfl)
      · exact .inr (.inr (.cons h))
    · exact .inr (.inr (.rel h))
/-- a strict order of which any two unlike things stand one way -/
structure Tot {α : Type} (lt : α → α → Bool) : Prop where
  irr : ∀ x, lt x x = false
  tr : ∀ x y z, lt x y = true → lt y z = true → lt x z = true
  tri : ∀ x y, lt x y = true ∨ x = y ∨ lt y x = true
theorem Tot.asym {α : Type} {lt : α → α → Bool} (T : Tot lt) {x y : α} (h : lt x y = true) : lt y x = false := by
  cases e : lt y x with
  | false => rfl
  | true => have := T.tr _ _ _ h e; rw [T.irr] at this; cases this
theorem Tot.anti {α : Type} {lt : α → α → Bool} (T : Tot lt) {x y : α} (h1 : lt x y = false) (h2 : lt y x = false) : x = y := by
  rcases T.tri x y with h | h | h
  · rw [h1] at h; cases h
  · exact h
  · rw [h2] at h; cases h
theorem Tot.swo {α : Type} {lt : α → α → Bool} (T : Tot lt) : Swo lt where
  asym := fun x y h => T.asym h
  tr := fun x y z h1 h2 => by
    cases e : lt z x with
    | false => rfl
    | true =>
      rcases T.tri x y with h | h | h
      · have := T.tr _ _ _ e h; rw [h2] at this; cases this
      · subst h; rw [h2] at e; cases e
      · rw [h1] at h; cases h
theorem tot_str : Tot strLt where
  irr := fun x => decide_eq_false (nl_irr _)
  tr := fun x y z h1 h2 => decide_eq_true (nl_tr (of_decide_eq_true h1) (of_decide_eq_true h2))
  tri := fun x y => by
    rcases nl_tri x.cps.toList y.cps.toList with h | h | h
    · exact .inl (decide_eq_true h)
    · refine .inr (.inl ?_)
      obtain ⟨⟨a⟩⟩ := x
      obtain ⟨⟨b⟩⟩ := y
      simp at h
      subst h; rfl
    · exact .inr (.inr (decide_eq_true h))
abbrev Ent := Int × Int × Str
def entLt (p q : Ent) : Bool := if p.1 = q.1 then (if p.2.1 = q.2.1 then strLt p.2.2 q.2.2 else decide (p.2.1 < q.2.1)) else decide (p.1 < q.1)
theorem tot_ent : Tot entLt where
  irr := fun x => by simp [entLt, tot_str.irr]
  tr := fun x y z h1 h2 => by
    unfold entLt at *
    split at h1 <;> split at h2
    · rename_i a b
      rw [if_pos (a.trans b)]
      split at h1 <;> split at h2
      · rename_i c d
        rw [if_pos (c.trans d)]
        exact tot_str.tr _ _ _ h1 h2
      · rename_i c d
        rw [if_neg (by rw [c]; exact d), c]; exact h2
      · rename_i c d
        rw [if_neg (by rw [← d]; exact c), ← d]; exact h1
      · have h1 := of_decide_eq_true h1
        have h2 := of_decide_eq_true h2
        rw [if_neg (by omega)]
        exact decide_eq_true (by omega)
    · rename_i a b
      rw [if_neg (by rw [a]; exact b), a]; exact h2
    · rename_i a b
      rw [if_neg (by rw [← b]; exact a), ← b]; exact h1
    · have h1 := of_decide_eq_true h1
      have h2 := of_decide_eq_true h2
      rw [if_neg (by omega)]
      exact decide_eq_true (by omega)
  tri := fun x y => by
    obtain ⟨a, b, c⟩ := x
    obtain ⟨a', b', c'⟩ := y
    unfold entLt
    by_cases e : a = a'
    · subst e
      by_cases f : b = b'
      · subst f
        simp only [if_true]
        rcases tot_str.tri c c' with h | h | h
        · exact .inl h
        · subst h; exact .inr (.inl rfl)
        · exact .inr (.inr h)
      · have f' : ¬ b' = b := fun z => f z.symm
        simp only [if_true, if_neg f, if_neg f']
        rcases Int.lt_trichotomy b b' with h | h | h
        · exact .inl (decide_eq_true h)
        · exact absurd h f
        · exact .inr (.inr (decide_eq_true h))
    · have e' : ¬ a' = a := fun z => e z.symm
      simp only [if_neg e, if_neg e']
      rcases Int.lt_trichotomy a a' with h | h | h
      · exact .inl (decide_eq_true h)
      · exact absurd h e
      · exact .inr (.inr (decide_eq_true h))
/-! ### sorted lists -/
def Sd {α : Type} (lt : α → α → Bool) (l : List α) : Prop := l.Pairwise fun a b => lt b a = false
theorem sd_uniq {α : Type} {lt : α → α → Bool} (T : Tot lt) : ∀ {l m : List α}, l.Perm m → Sd lt l → Sd lt m → l = m
  | [], m, p, _, _ => by have := p.length_eq; cases m with | nil => rfl | cons _ _ => cases this
  | a :: l, [], p, _, _ => by have := p.length_eq; cases this
  | a :: l, b :: m, p, hl, hm => by
    have h1 := List.pairwise_cons.mp hl
    have h2 := List.pairwise_cons.mp hm
    have e : a = b := by
      have ha : a ∈ b :: m := p.mem_iff.mp (List.mem_cons_self ..)
      have hb : b ∈ a :: l := p.mem_iff.mpr (List.mem_cons_self ..)
      rcases List.mem_cons.mp ha with h | h
      · exact h
      · rcases List.mem_cons.mp hb with h' | h'
        · exact h'.symm
        · exact T.anti (h2.1 a h |> fun z => z) (h1.1 b h')
    subst e
    rw [sd_uniq T (List.Perm.cons_inv p) h1.2 h2.2]
/-! ### tuples that are entries -/
def IsE (h : Heap) (v : Value) (e : Ent) : Prop := ∃ a o t u x n, v = .ref a ∧ h.get? a = some o ∧ o.cls = .type "tuple" ∧ o.data = .seq #[.int e.1 t, .int e.2.1 u, .str e.2.2 x] n
theorem IsE.keeps {h h' : Heap} {v : Value} {e : Ent} (p : IsE h v e) (k : ∀ b o, h.get? b = some o → o.cls = .type "tuple" → h'.get? b = some o) : IsE h' v e := by
  obtain ⟨a, o, t, u, x, n, e, ho, hc, hd⟩ := p
  exact ⟨a, o, t, u, x, n, e, k _ _ ho hc, hc, hd⟩
section
variable {prog : Program} {w : World} {A : Around} {E : Value → Shared → Prop} {s : Shared}
theorem firstsE {h : Heap} : ∀ {vs : List Value}, (∀ v ∈ vs, ∃ e, IsE h v e) → ∃ fs : List Value, PySem.W.KatTups h vs fs ∧ fs.length = vs.length ∧ ∀ f ∈ fs, ∃ x t, f = Value.int x t
  | [], _ => ⟨[], PySem.W.KatTups.nil, rfl, fun _ hm => by simp at hm⟩
  | v :: vs, hp => by
    obtain ⟨fs, h1, h2, h3⟩ := firstsE (vs := vs) fun v' hm => hp v' (List.mem_cons_of_mem _ hm)
    obtain ⟨e, a, o, t, u, x, n, e', ho, hc, hd⟩ := hp v (List.mem_cons_self ..)
    subst e'
    refine ⟨.int e.1 t :: fs, PySem.W.KatTups.cons ho hc hd rfl h1, by rw [List.length_cons, List.length_cons, h2], fun f hm => ?_⟩
    rcases List.mem_cons.mp hm with rfl | hm
    · exact ⟨_, t, rfl⟩
    · exact h3 f hm
theorem ent_cmp {vs : List Value} {k : Value → Ent} (hp : ∀ v ∈ vs, IsE s.heap v (k v)) : Cmp prog w A s (tuples' true) (fun p => p.1 ∈ vs) (lt2 fun v u => entLt (k v) (k u)) := by
  intro p q hm hm'
  have h1 := hp _ hm
  have h2 := hp _ hm'
  show wpAny (model prog w) A (keyLt' (tuples' true) p.1 q.1) (fun r s' => s' = s ∧ r = entLt (k p.1) (k q.1)) (fun _ _ => False) s
  generalize k p.1 = e1 at h1 ⊢
  generalize k q.1 = e2 at h2 ⊢
  obtain ⟨x, y, z⟩ := e1
  obtain ⟨x', y', z'⟩ := e2
  obtain ⟨a, o, t, u, v, n, e, ho, hc, hd⟩ := h1
  obtain ⟨a', o', t', u', v', n', e', ho', hc', hd'⟩ := h2
  rw [e, e']
  refine PySem.W.kat_lt ho hd ho' hd' ?_
  show PySem.W.KatLex prog w A true (decide (3 < 3)) _ [(.int x t, .int x' t'), (.int y u, .int y' u'), (.str z v, .str z' v')] 0 s
  unfold entLt
  dsimp only
  refine PySem.W.kat_cons (SeqAt.EqAt.int_int x t x' t' prog w _ _ ?_)
  refine PySem.W.kat_go (fun e1 => ?_) (fun e1 => ?_)
  · have ex : x = x' := by simpa using e1
    refine PySem.W.kat_yes (PySem.W.kat_cons (SeqAt.EqAt.int_int y u y' u' prog w _ _ ?_))
    refine PySem.W.kat_go (fun e2 => ?_) (fun e2 => ?_)
    · have ey : y = y' := by simpa using e2
      rw [if_pos ex, if_pos ey]
      refine PySem.W.kat_yes (PySem.W.kat_cons (SeqAt.EqAt.str_str z v z' v' prog w _ _ ?_))
      refine PySem.W.kat_go (fun e3 => ?_) (fun e3 => ?_)
      · have ez : z = z' := by simpa using e3
        subst ez
        exact PySem.W.kat_yes (PySem.W.kat_nil ⟨rfl, (tot_str.irr z).symm⟩)
      · refine PySem.W.kat_no (PySem.W.kat_one _ _ (PyProof.Rows.lt_str ?_))
        exact (show s = s ∧ decide (z.cps.toList < z'.cps.toList) = strLt z z' from ⟨rfl, rfl⟩)
    · have ey : ¬ y = y' := by simpa using e2
      rw [if_pos ex, if_neg ey]
      refine PySem.W.kat_no (PySem.W.kat_one _ _ (PyProof.Rows.lt_int ?_))
      exact (show s = s ∧ decide (y < y') = decide (y < y') from ⟨rfl, rfl⟩)
  · have ex : ¬ x = x' := by simpa using e1
    rw [if_neg ex]
    exact PySem.W.kat_no (oneLt_int ⟨rfl, rfl⟩)
theorem ents_sortableO {a : Addr} {vs : List Value} {k : Value → Ent} (h0 : 0 < vs.length) (hp : ∀ v ∈ vs, IsE s.heap v (k v)) (ha : ∀ o, s.heap.get? a = some o → o.cls ≠ .type "tuple") : SortableO prog w A s a vs fun v u => entLt (k v) (k u) := by
  intro h' keep
  have hp' : ∀ v ∈ vs, IsE h' v (k v) := fun v hm => (hp v hm).keeps fun b o e c => keep b o (fun z => by subst z; exact ha o e c) e
  obtain ⟨fs, h1, h2, h3⟩ := firstsE fun v hm => ⟨_, hp' v hm⟩
  refine ⟨tuples' true, fun Q E hq => ?_, ent_cmp hp'⟩
  refine PySem.W.kat_kind (T := .type "int") h1 (by omega) (fun f hm => ?_) (by rfl) ?_
  · obtain ⟨x, t, rfl⟩ := h3 f hm
    exact PySem.W.Looks.now
  · have e : (Value.type "int" != Value.type "tuple") = true := by first | decide +kernel | rfl | decide
    rw [e]
    exact hq
end
end Own

set_option Elab.async false
set_option linter.all false
set_option maxRecDepth 100000
set_option maxHeartbeats 4000000
namespace Gs
open PySem L2 PySem.Spec PyProof.Rows
/-! ### sets of keys of any kind that can be walked: L what was put in -/
section
variable {P : Program} {w : World} {κ : Type} [DecidableEq κ] (knd : PySem.KeyKind P w κ)
/-- the elements and their keys, one by one -/
inductive Al : List (Int × Value) → List κ → Prop where
  | nil : Al [] []
  | cons {e : Int × Value} {k : κ} {es : List (Int × Value)} {ks : List κ} (h : knd.is k e.2 = true ∧ e.1 = knd.hash k ∧ e.2.scannable = true) (r : Al es ks) : Al (e :: es) (k :: ks)
variable {knd}
theorem Al.elems {es : List (Int × Value)} {ks : List κ} (h : Al knd es ks) : ElemsOf knd es := by
  induction h with
  | nil => exact fun e he => by simp at he
  | cons h _ ih =>
    intro e he
    rcases List.mem_cons.mp he with z | z
    · subst z; exact ⟨⟨_, h.1, h.2.1⟩, h.2.2⟩
    · exact ih e z
theorem Al.len {es : List (Int × Value)} {ks : List κ} (h : Al knd es ks) : es.length = ks.length := by
  induction h with
  | nil => rfl
  | cons _ _ ih => rw [List.length_cons, List.length_cons, ih]
theorem Al.has {es : List (Int × Value)} {ks : List κ} (h : Al knd es ks) (k : κ) : k ∈ ks ↔ ∃ e ∈ es, knd.is k e.2 = true := by
  induction h with
  | nil => simp
  | @cons e k' es ks h _ ih =>
    constructor
    · intro hk
      rcases List.mem_cons.mp hk with z | z
      · subst z; exact ⟨e, List.mem_cons_self .., h.1⟩
      · obtain ⟨e', he, q⟩ := ih.mp z; exact ⟨e', List.mem_cons_of_mem _ he, q⟩
    · rintro ⟨e', he, q⟩
      rcases List.mem_cons.mp he with z | z
      · subst z; rw [knd.inj _ _ _ q h.1]; exact List.mem_cons_self ..
      · exact List.mem_cons_of_mem _ (ih.mpr ⟨e', z, q⟩)
theorem Al.perm {es es' : List (Int × Value)} (p : es'.Perm es) : ∀ {ks : List κ}, Al knd es ks → ∃ ks', ks'.Perm ks ∧ Al knd es' ks' := by
  intro ks h
  replace p := p.symm
  revert ks
  induction p with
  | nil => exact fun h => ⟨_, .refl _, h⟩
  | cons x _ ih =>
    intro ks h
    cases h with
    | cons h r =>
      obtain ⟨ks', q, r'⟩ := ih r
      exact ⟨_ :: ks', q.cons _, .cons h r'⟩
  | swap x y l =>
    intro ks h
    cases h with
    | cons h1 r =>
      cases r with
      | cons h2 r => exact ⟨_, List.Perm.swap _ _ _, .cons h2 (.cons h1 r)⟩
  | trans _ _ ih1 ih2 =>
    intro ks h
    obtain ⟨k1, q1, r1⟩ := ih1 h
    obtain ⟨k2, q2, r2⟩ := ih2 r1
    exact ⟨k2, q2.trans q1, r2⟩
variable (knd)
def GS (h : Heap) (a : Addr) (L : List κ) : Prop :=
  ∃ o es ep t ks, h.get? a = some o ∧ o.ExactSet ∧ o.data = .set es ep t ∧ Al knd es.toList ks ∧ ks.Nodup ∧ (∀ k, k ∈ ks ↔ k ∈ L) ∧ ks.length ≤ L.length ∧ es.size < scanBound ∧ t.fits es.size = true ∧ Ris t.place.toList ∧
    (w.params.followText "set-order" = true ∨ t.led = true)
variable {knd} {A : Around} {E : Value → Shared → Prop} {s : Shared} {a : Addr} {L : List κ} {k : κ} {v : Value}
theorem GS.at {h h' : Heap} (G : GS knd h a L) (q : ∀ o, h.get? a = some o → h'.get? a = some o) : GS knd h' a L := by
  obtain ⟨o, es, ep, t, ks, ho, r⟩ := G
  exact ⟨o, es, ep, t, ks, q o ho, r⟩
/-- the element is laid; perhaps all is laid anew -/
theorem gs_lay {g : Bool → Sem Unit} (hg : ∀ (b : Bool) (s₁ : Shared) (Q' : Unit → Shared → Prop), Q' () s₁ → wpAny (model P w) A (g b) Q' E s₁)
    {o : Obj} {es : Array (Int × Value)} {ep : Nat} {t : SetTable} (ho : s.heap.get? a = some o) (hex : o.ExactSet) (hd : o.data = .set es ep t) {es1 : Array (Int × Value)} {t2 : SetTable} {ks : List κ} (al : Al knd es1.toList ks) (nd : ks.Nodup)
    (hm : ∀ k, k ∈ ks ↔ k ∈ L) (hl : ks.length ≤ L.length) (hb : es1.size < scanBound) (hf : t2.fits es1.size = true) (hr : Ris t2.place.toList) (hle : w.params.followText "set-order" = true ∨ t2.led = true) {wasDummy : Bool} {R : Option Bool → Shared → Prop}
    (hR : ∀ h', Heap.SameBut a s.heap h' → GS knd h' a L → R (some true) { s with heap := h' }) :
    wpAny (model P w) A (do
        storeSet a es1 t2
        if (!wasDummy && t2.tooFull) = true then do
            g (relayAll t2 es1 (SetTable.grown es1.size)).2.2
            storeSet a (relayAll t2 es1 (SetTable.grown es1.size)).1 (relayAll t2 es1 (SetTable.grown es1.size)).2.1
            pure (some true)
          else pure (some true)) R E s := by
  have one := store_at (es' := es1) (t' := t2) ho hd
  have sb := Heap.SameBut.update s.heap a (Obj.putSet es1 t2)
  refine wpAny_bind (wpAny_storeSet_of ho hd ?_ (fits_of_scanBound hb))
  by_cases c : (!wasDummy && t2.tooFull) = true
  · rw [if_pos c]
    have pm := relayAll_perm t2 es1 (SetTable.grown es1.size)
    have q1 := relayAll_fits t2 es1 (SetTable.grown es1.size)
    have q2 := relayAll_ris t2 es1 (SetTable.grown es1.size)
    have q3 := relayAll_led t2 es1 (SetTable.grown es1.size)
    revert pm q1 q2 q3
    generalize relayAll t2 es1 (SetTable.grown es1.size) = Z
    obtain ⟨es2, t3, gave⟩ := Z
    intro pm q1 q2 q3
    obtain ⟨ks2, pk, al2⟩ := Al.perm pm al
    have e2 : es2.size = es1.size := by
      have := pm.length_eq
      simpa using this
    have hb2 : es2.size < scanBound := e2 ▸ hb
    refine wpAny_bind (hg _ _ _ (wpAny_bind (wpAny_storeSet_of one rfl (wpAny_pure (hR _ (sb.trans (Heap.SameBut.update _ a _)) ?_)) (fits_of_scanBound hb2))))
    exact ⟨_, es2, _, t3, ks2, store_at (es' := es2) (t' := t3) one rfl, hex, rfl, al2, pk.nodup_iff.mpr nd, fun k => pk.mem_iff.trans (hm k), pk.length_eq ▸ hl, hb2, q1, q2, hle.imp id fun z => q3.trans z⟩
  · rw [if_neg c]
    exact wpAny_pure (hR _ sb ⟨_, es1, _, t2, ks, one, hex, rfl, al, nd, hm, hl, hb, hf, hr, hle⟩)
/-- one more key -/
theorem gs_add (hk : knd.is k v = true) (hsc : v.scannable = true) (hnv : (∃ i u, v = .int i u) ∨ ∃ x u, v = .str x u) {Q : Bool → Shared → Prop} (G : GS knd s.heap a L) (room : L.length + 1 < scanBound)
    (hQ : ∀ b h', Heap.SameBut a s.heap h' → GS knd h' a (k :: L) → Q b { s with heap := h' }) : wpAny (model P w) A (setAddHashed a v (knd.hash k)) Q E s := by
  obtain ⟨o, es, ep, t, ks, ho, hex, hd, al, nd, hm, hl, hb, hf, hr, hle⟩ := G
  have el := al.elems
  unfold setAddHashed setAddHashedIn
  refine wpAny_holding (wpAny_bind (wpAny_setState_of ho hd hf ?_))
  dsimp only
  rw [byScan_of hsc hb el, if_pos rfl]
  unfold setAddByScan
  refine wpAny_bind (wpAny_bind (wpAny_rule (wpAny_bind (wpAny_setScan_of hk ho hd hf el ?_))))
  cases hfi : List.findIdx? (fun e => knd.is k e.2) es.toList with
  | some j =>
    obtain ⟨hj, pj, _⟩ := List.findIdx?_eq_some_iff_getElem.mp hfi
    have hin : k ∈ ks := (al.has k).mpr ⟨_, List.getElem_mem hj, pj⟩
    refine wpAny_pure (wpAny_pure (hQ _ s.heap (Heap.SameBut.refl a s.heap) ⟨o, es, ep, t, ks, ho, hex, hd, al, nd, fun i => ?_, Nat.le_succ_of_le hl, hb, hf, hr, hle⟩))
    rw [hm i, List.mem_cons]
    exact ⟨.inr, fun z => z.elim (fun e => e ▸ (hm k).mp hin) id⟩
  | none =>
    have hno : k ∉ ks := fun z => by
      obtain ⟨e, he, q⟩ := (al.has k).mp z
      have c := List.findIdx?_eq_none_iff.mp hfi e he
      rw [q] at c
      cases c
    have gw : ∀ (b : Bool) {s₁ : Shared} {Q' : Unit → Shared → Prop}, Q' () s₁ → wpAny (model P w) A (match b with | true => rule "set.scan.the-table-gave-way" | false => pure ()) Q' E s₁ := fun b s₁ Q' q => by
      cases b
      · exact wpAny_pure q
      · exact wpAny_rule q
    have pm := layNew_perm t es (knd.hash k) v
    have q1 := layNew_fits t es (knd.hash k) v
    have q2 := layNew_ris t es (knd.hash k) v hr
    have q3 := layNew_led t es (knd.hash k) v
    dsimp only
    revert pm q1 q2 q3
    generalize layNew t es (knd.hash k) v = Z
    obtain ⟨es1, t1, wasDummy, gave⟩ := Z
    intro pm q1 q2 q3
    dsimp only at pm q1 q2 q3 ⊢
    rw [Array.toList_push] at pm
    obtain ⟨ks1, pk, al1⟩ := Al.perm (pm.trans (List.perm_append_singleton _ _)) (Al.cons (knd := knd) (k := k) ⟨hk, rfl, hsc⟩ al)
    have ln : es1.size = ks.length + 1 := by
      have e := al1.len
      rw [pk.length_eq, Array.length_toList] at e
      exact e
    have hb1 : es1.size < scanBound := by rw [ln]; omega
    have nd1 : ks1.Nodup := pk.nodup_iff.mpr (List.nodup_cons.mpr ⟨hno, nd⟩)
    have hm1 : ∀ i, i ∈ ks1 ↔ i ∈ k :: L := fun i => by rw [pk.mem_iff, List.mem_cons, List.mem_cons, hm i]
    have hl1 : ks1.length ≤ (k :: L).length := by rw [pk.length_eq, List.length_cons, List.length_cons]; omega
    have hle1 : w.params.followText "set-order" = true ∨ t1.led = true := hle.imp id fun z => q3.trans z
    refine wpAny_bind (gw _ ?_)
    by_cases c : t1.plain = true
    · rw [if_pos c]
      refine wpAny_bind ?_
      rw [hashByValue_scannable 8 hsc]
      refine wpAny_pure ?_
      refine gs_lay (L := k :: L) (fun b s₁ Q' q => by cases b <;> first | exact wpAny_pure q | exact wpAny_rule q) ho hex hd al1 nd1 hm1 hl1 hb1 ?_ ?_ ?_ fun h' sb r => wpAny_pure (hQ _ h' sb r)
      · first | exact q1 | (split <;> first | exact q1 | exact SetTable.fits_plain_off q1)
      · first | exact q2 | (split <;> exact q2)
      · first | exact hle1 | (split <;> exact hle1)
    · rw [if_neg c]
      refine wpAny_bind (wpAny_pure ?_)
      simp only [↓reduceIte]
      exact gs_lay (L := k :: L) (fun b s₁ Q' q => by cases b <;> first | exact wpAny_pure q | exact wpAny_rule q) ho hex hd al1 nd1 hm1 hl1 hb1 q1 q2 hle1 fun h' sb r => wpAny_pure (hQ _ h' sb r)
end
end Gs

set_option Elab.async false
set_option linter.all false
set_option maxRecDepth 100000
set_option maxHeartbeats 4000000
namespace Gs
open PySem L2 PySem.Spec PyProof.Rows
section
variable {P : Program} {w : World}
theorem al_strs {es : List (Int × Value)} {ks : List Str} (h : Al (PySem.strKind P w) es ks) : StrsAre (es.map (·.2)) ks := by
  induction h with
  | nil => exact .nil
  | cons h _ ih =>
    obtain ⟨t, e⟩ := Value.isStrOf_shape h.1
    rw [List.map_cons, e]
    exact .cons _ t ih
variable {A : Around} {E : Value → Shared → Prop} {s : Shared} {a : Addr} {L : List Str}
/-- sorted(set), a set of texts -/
theorem sorted_gs {Q : Value → Shared → Prop} (G : GS (PySem.strKind P w) s.heap a L) (hh : A.handled = none) (h64 : L.length < 64)
    (hQ : ∀ s' p (out : Array Value) (c : Nat) (ss : List Str), (∀ b o, s.heap.get? b = some o → s'.heap.get? b = some o) → s'.gens = s.gens → s'.os = s.os → s.heap.objs.size ≤ p →
      s'.heap.get? p = some (seqObj "list" out c) → StrsAre out.toList ss → sortedS ss = true → ss.Nodup → (∀ x, x ∈ ss ↔ x ∈ L) → ss.length ≤ L.length → Q (.ref p) s') :
    wpAny (model P w) A (call (.builtin "sorted") [.ref a]) Q E s := by
  obtain ⟨o, es, ep, t, ks, ho, hex, hd, al, nd, hm, hl, hb, hf, hr, hle⟩ := G
  have ste := al_strs al
  refine Calls.call_function_entry kind_sorted plain_sorted entry_sorted (args_sorted1 _) ?_
  unfold Builtin.«sorted»
  refine wpAny_bind (m := checkCount "sorted" 1 1 _) (wpAny_pure ?_)
  refine wpAny_bind (collect_set (A := A.in1) hh ⟨o, ho, hex.1, hd⟩ hf hb hr hle fun s1 vs k1 hz g1 o1 pm => ?_)
  have vlen : vs.length = ks.length := by rw [pm.length_eq, List.length_map, al.len]
  have v64 : vs.length < 64 := by rw [vlen]; omega
  have st1 : StrsAre vs (vs.map strOf) := strsAre_map vs fun v hv => ste.all v (pm.mem_iff.mp hv)
  have pk : (vs.map strOf).Perm ks := by
    have q := pm.map strOf
    rwa [ste.strs] at q
  refine wpAny_bind (wpAny_newList ?_ (Nat.le_trans (Nat.le_of_lt v64) (by rw [sizeLine_eq]; omega)))
  have at1 : (s1.heap.push (seqObj "list" vs.toArray 0)).get? s1.heap.objs.size = some (seqObj "list" vs.toArray 0) := Heap.get?_push_size _ rfl
  refine wpAny_bind (wpAny_holding (wpAny_call_entry slot_list_sort ⟨_, at1, rfl⟩ entry_list_sort (list_sort_treeK strKind_oneLt at1 st1.keysOf (fun v₁ v₂ rest e => keyKind_strs (by rw [← e]; exact st1)) v64 fun st' hp hs => ⟨_, rfl, ?_⟩) (args_list_sort _)))
  obtain ⟨ss, h1, h2, h3⟩ := sorted_out_str st1 hp hs
  obtain ⟨c, hc⟩ := sortedHeap_at (vs := vs) (out := (arrOf st').map (·.2)) at1
  have pn := h2.trans pk
  refine wpAny_pure ⟨_, rfl, hQ _ s1.heap.objs.size _ c ss (fun b u e => ?_) g1 o1 hz hc h1 h3 (pn.nodup_iff.mpr nd) (fun x => pn.mem_iff.trans (hm x)) (pn.length_eq ▸ hl)⟩
  have q := k1 b u e
  have hlt := Heap.lt_size q
  show (sortedHeap (s1.heap.push (seqObj "list" vs.toArray 0)) s1.heap.objs.size vs ((arrOf st').map (·.2))).get? b = some u
  rw [sortedHeap_old (Nat.ne_of_lt hlt) (by rw [size_push']; exact Nat.lt_succ_of_lt hlt)]
  exact Heap.get?_push_of_some _ q
end
section
variable {P : Program} {w : World} {κ : Type} [DecidableEq κ] {knd : PySem.KeyKind P w κ} {A : Around} {E : Value → Shared → Prop} {s : Shared}
/-- a value that tells the key k -/
def Told (knd : PySem.KeyKind P w κ) (k : κ) (v : Value) : Prop := knd.is k v = true ∧ v.scannable = true ∧ ((∃ i u, v = .int i u) ∨ ∃ x u, v = .str x u)
theorem gs_fresh {h : Heap} {a : Addr} (ho : h.get? a = some { cls := .type "set", dict := none, data := .set #[] 0 (.fresh 0 0 (!w.params.followText "set-order")) }) : GS knd h a ([] : List κ) := by
  refine ⟨_, #[], 0, _, [], ho, ⟨rfl, rfl, rfl⟩, rfl, .nil, List.nodup_nil, fun _ => Iff.rfl, Nat.le_refl _, by decide, by rfl, List.Pairwise.nil, ?_⟩
  show _ ∨ (!w.params.followText "set-order") = true
  cases w.params.followText "set-order"
  · exact .inr rfl
  · exact .inl rfl
/-- set.update, key by key -/
theorem gs_loop {I : Addr} {fp wr : List Addr} {G : Array GenState → Array GenState → Prop} {n : Nat} {Pv : Nat → Value → Prop} {St : Nat → Shared → Prop} {R : Result → Shared → Prop} (W : WalksS P w A.in1 I fp wr G n Pv St) (S : Addr) (hSf : S ∉ fp)
    (ks : List κ) (hn : n = ks.length) (hb : ks.length + 1 < scanBound) (hval : ∀ i v, Pv i v → ∃ k, ks[i]? = some k ∧ Told knd k v) :
    ∀ (m i : Nat) (s : Shared) (L : List κ), n - i = m → i ≤ n → St i s → L.length = i → (∀ k, k ∈ L ↔ k ∈ ks.take i) → GS knd s.heap S L →
      (∀ s' L', Moved (S :: wr) G s s' → L'.length = n → (∀ k, k ∈ L' ↔ k ∈ ks) → GS knd s'.heap S L' → R (.ok (.ret .none)) s') → codeAny (model P w) A (.builtin "set.update.loop" ⟨[.ref S, .ref I], []⟩) R s := by
  have hSw : S ∉ wr := fun h => hSf (W.sub _ h)
  have sub : ∀ b ∈ wr, b ∈ S :: wr := fun b hb => List.mem_cons_of_mem _ hb
  intro m
  induction m with
  | zero =>
    intro i s L hm hi st hL hk G hR
    obtain rfl : i = n := by omega
    refine codeAny_builtin F.entry_set_update_loop ?_
    rw [Around.under_plainId F.plain_set_update_loop _]
    refine wpAny_bind (W.done s _ _ st fun s' mv => wpAny_pure (hR s' L (mv.mono sub) hL (fun k => ?_) (G.at fun o e => mv.heap S o hSw e)))
    rw [hk k, List.take_of_length_le (Nat.le_of_eq hn.symm)]
  | succ m ih =>
    intro i s L hm hi st hL hk G hR
    have lt : i < n := by omega
    refine codeAny_builtin F.entry_set_update_loop ?_
    rw [Around.under_plainId F.plain_set_update_loop _]
    refine wpAny_bind (W.item i s _ _ lt st fun v s' pv st' mv => ?_)
    obtain ⟨k, ek, tk⟩ := hval i v pv
    have G' : GS knd s'.heap S L := G.at fun o e => mv.heap S o hSw e
    show wpAny _ A.in1 (holding [v] (setAdd S v) >>= _) _ _ s'
    refine wpAny_bind (wpAny_holding ?_)
    unfold setAdd
    refine wpAny_holding (wpAny_bind (knd.pyHash tk.1 ?_))
    refine gs_add (s := { s' with toks := s'.toks + 1 }) tk.1 tk.2.1 tk.2.2 G' (by omega) fun b h' sb G2 => ?_
    refine wpAny_pure ⟨plainId_quiet F.plain_set_update_loop _, ih (i + 1) _ (k :: L) (by omega) lt (W.frame _ s' _ _ st' (Nat.le_succ _) fun c hc o e => ?_) (by rw [List.length_cons, hL]) (fun j => ?_) G2 fun s2 L2 mv2 l2 k2 g2 => ?_⟩
    · rw [sb.2 c (fun z : c = S => hSf (z ▸ hc))]; exact e
    · rw [List.take_add_one, ek, List.mem_cons, hk j]
      simp [or_comm]
    · refine hR s2 L2 (Moved.trans W.gtrans ((mv.mono sub).then_heap (Nat.le_succ _) fun c o hc e => ?_) mv2) l2 k2 g2
      rw [sb.2 c (fun z : c = S => hc (by rw [z]; exact List.mem_cons_self))]; exact e
end
end Gs

set_option Elab.async false
set_option linter.all false
set_option maxRecDepth 100000
set_option maxHeartbeats 4000000
namespace Gs
open PySem L2 PySem.Spec PyProof.Rows
section
variable {P : Program} {w : World} {κ : Type} [DecidableEq κ] {knd : PySem.KeyKind P w κ} {A : Around} {E : Value → Shared → Prop} {s : Shared}
def emptySet (w : World) : Obj := { cls := .type "set", dict := none, data := .set #[] 0 (.fresh 0 0 (!w.params.followText "set-order")) }
/-- set.__init__ of the new set S by a list -/
theorem init_gs {l S : Addr} {items : Array Value} {ks : List κ} {Q : Value → Shared → Prop} {h : Heap} (hh : A.handled = none) (hl : h.IsList l items) (eS : S = h.objs.size) (hit : ∀ (i : Nat) (v : Value), items[i]? = some v → ∃ k, ks[i]? = some k ∧ Told knd k v) (hn : items.size = ks.length) (hb : ks.length + 1 < scanBound)
    (hQ : ∀ (h' : Heap) (tk : Nat) (L : List κ), (∀ b o, h.get? b = some o → h'.get? b = some o) → GS knd h' S L → (∀ k, k ∈ L ↔ k ∈ ks) → L.length = ks.length → Q .none { s with heap := h', toks := tk }) :
    codeAny (model P w) A (.call (.builtin "set.__init__") ⟨[.ref S, .ref l], []⟩) (wants Q E) { s with heap := h.push (emptySet w) } := by
  subst eS
  have atS : (h.push (emptySet w)).get? h.objs.size = some (emptySet w) := Heap.get?_push_size _ rfl
  refine codeAny_call_builtin F.called_set.init.plain F.entry_set_init (check_set_init_1 ⟨_, atS, rfl⟩ ?_)
  obtain ⟨ol, hol, hcl, nl, hdl⟩ := hl
  obtain ⟨c0, d0, dt0, sl0⟩ := ol
  simp only at hcl hdl
  subst hcl; subst hdl
  have hol' : (h.push (emptySet w)).get? l = some { cls := .type "list", dict := d0, data := .seq items nl, slots := sl0 } := Heap.get?_push_of_some _ hol
  have f1 := F.sub_list_set
  have f2 := F.sub_list_frozenset
  have f3 : (Value.type "list" == Value.type "dict") = false := by decide
  have il : (h.push (emptySet w)).IsList l items := ⟨_, hol', rfl, nl, rfl⟩
  unfold Builtin.«set.__init__» noKeywords Builtin.Frozenset.updateFrom
  generalize hPI : pyIter = PI
  wp_walk
  subst hPI
  refine wpAny_pyIter_list il ?_
  refine wpAny_bind (wpAny_runValue ?_)
  have lt : l < h.objs.size := Heap.lt_size hol
  have sz : (h.push (emptySet w)).objs.size = h.objs.size + 1 := Heap.size_push ..
  have hh3 : A.in1.in1.handled = none := by simp [hh]
  have neI : l ≠ (h.push (emptySet w)).objs.size := by rw [sz]; exact Nat.ne_of_lt (Nat.lt_succ_of_lt lt)
  have nS : h.objs.size ∉ [(h.push (emptySet w)).objs.size, l] := by
    rw [sz]
    simp only [List.mem_cons, List.not_mem_nil, or_false, not_or]
    exact ⟨Nat.ne_of_lt (Nat.lt_succ_self _), Nat.ne_of_gt lt⟩
  refine gs_loop (knd := knd) ((Walks.list hh3 _ l neI items).toS) h.objs.size nS ks hn hb hit (items.size - 0) 0 _ [] (by omega) (Nat.zero_le _) ⟨⟨_, Heap.get?_push_size _ rfl, rfl, rfl⟩, (il.push _)⟩ rfl (fun k => by simp) (gs_fresh (Heap.get?_push_of_some _ atS)) fun s' L mv hL hk G => ?_
  obtain ⟨h', g', dr', tk', os'⟩ := s'
  obtain rfl : g' = s.gens := mv.gens
  obtain rfl : dr' = s.drawn := mv.drawn
  obtain rfl : os' = s.os := mv.os
  refine wpAny_pure ?_
  refine wpAny_pure (hQ h' tk' L (fun b o e => ?_) G hk (hL.trans hn))
  have hb0 := Heap.lt_size e
  refine mv.heap b o ?_ (Heap.get?_push_of_some _ (Heap.get?_push_of_some _ e))
  rw [sz]
  simp only [List.mem_cons, List.not_mem_nil, or_false, not_or]
  exact ⟨Nat.ne_of_lt hb0, Nat.ne_of_lt (Nat.lt_succ_of_lt hb0)⟩
set_option maxHeartbeats 8000000 in
/-- set(l), l a list -/
theorem call_gs {l : Addr} {items : Array Value} {ks : List κ} {Q : Value → Shared → Prop} (hh : A.handled = none) (hl : s.heap.IsList l items) (hit : ∀ (i : Nat) (v : Value), items[i]? = some v → ∃ k, ks[i]? = some k ∧ Told knd k v) (hn : items.size = ks.length) (hb : ks.length + 1 < scanBound)
    (hQ : ∀ (h' : Heap) (tk : Nat) (L : List κ), (∀ b o, s.heap.get? b = some o → h'.get? b = some o) → GS knd h' s.heap.objs.size L → (∀ k, k ∈ L ↔ k ∈ ks) → L.length = ks.length → Q (.ref s.heap.objs.size) { s with heap := h', toks := tk }) :
    wpAny (model P w) A (call (.type "set") [.ref l]) Q E s := by
  obtain ⟨c, tl, hmro⟩ := F.called_set.mro
  have e1 := F.called_set.made
  have e2 := F.called_set.sub
  refine wpAny_call (codeAny_of_tree ?_)
  show wpAny _ _ (callAny (.type "set") _) _ _ _
  refine wpAny_pure ⟨Code.quiet_builtin _ (by decide +kernel), codeAny_builtin F.entry_type_call ?_⟩
  rw [Around.under_plain (weight_type_call_type "set" [.ref l] []) rfl]
  have e3 := F.called_set.notType
  have e4 := F.called_set.canCreate
  have e5 := F.typeCall_set_1 (.ref l)
  repeat (any_goals (first | assumption | wp_step))
  refine codeAny_mono (code_set_led1 (.ref l) (E := E) (Q₁ := fun obj s₁ => obj = .ref s.heap.objs.size ∧ s₁ = { s with heap := s.heap.push (emptySet w) }) ⟨rfl, rfl⟩) fun r s₁ hr => ?_
  cases r with
  | error e => exact hr
  | ok fl =>
    cases fl with
    | ret obj =>
      obtain ⟨rfl, rfl⟩ := hr
      have atS : (s.heap.push (emptySet w)).get? s.heap.objs.size = some (emptySet w) := Heap.get?_push_size _ rfl
      have hT : Shared.TypeIs { s with heap := s.heap.push (emptySet w) } (.ref s.heap.objs.size) "set" := ⟨_, atS, rfl⟩
      have e6 := F.called_set.init.lookup
      have e7 := F.called_set.init.bind (.ref s.heap.objs.size)
      repeat (any_goals (first | assumption | wp_step))
      refine codeAny_mono (init_gs (knd := knd) (ks := ks) (s := s) (h := s.heap) (E := E) (Q := fun r s₂ => r = .none ∧ ∃ h' tk L, s₂ = { s with heap := h', toks := tk } ∧ (∀ b o, s.heap.get? b = some o → h'.get? b = some o) ∧ GS knd h' s.heap.objs.size L ∧ (∀ k, k ∈ L ↔ k ∈ ks) ∧ L.length = ks.length)
        (by simp [hh]) hl rfl hit hn hb fun h' tk L a b c d => ⟨rfl, h', tk, L, rfl, a, b, c, d⟩) fun r₂ s₂ hr₂ => ?_
      cases r₂ with
      | error e => exact hr₂
      | ok fl₂ =>
        cases fl₂ with
        | ret r =>
          obtain ⟨rfl, h', tk, L, rfl, a, b, c, d⟩ := hr₂
          repeat (any_goals (first | assumption | wp_step))
          exact hQ h' tk L a b c d
        | _ => exact hr₂.elim
    | _ => exact hr.elim
end
/-! ### sorted(set(l)), l a list of texts -/
def rSetS (K : PySem.W.Frag) (P : Program) (w : World) : List V → Hp → VK → Prop := fun xs H Q => ∃ (l : Addr) (ss : List Str), xs = [.ref l] ∧ SqL K H l (ss.map V.str) ∧ ss.length < 60 ∧
  ∀ p L, H p = none → (∀ x, x ∈ L ↔ x ∈ ss) → L.length = ss.length → Q (.ref p) (upd H p (.ext fun h => GS (PySem.strKind P w) h p L))
section
variable {X : Cx}
theorem gs_ok {P : Program} {w : World} {H : Hp} {h : Heap} {a : Addr} {L : List Str} (G : GS (PySem.strKind P w) h a L) : ObjOk P w H h a (.ext fun h => GS (PySem.strKind P w) h a L) := by
  obtain ⟨o, es, ep, t, ks, ho, r⟩ := G
  exact ⟨⟨o, es, ep, t, ks, ho, r⟩, ⟨o, ho⟩, fun h1 h2 G k => G.at fun o e => k _ e⟩
theorem cr_setS (hc : X.calm = true) : CallR X (.type "set") (rSetS X.K X.prog X.w) := by
  intro pins s σ H xs us Q I r h
  obtain ⟨l, ss, rfl, hs, hl, q⟩ := h
  obtain ⟨its, rv, il, hz⟩ := I.list hs
  obtain ⟨u, rfl, ru⟩ := vals1 r
  obtain rfl : u = Value.ref l := ru
  have st := rv.strs
  have ln : its.length = ss.length := by rw [← rv.length, List.length_map]
  refine call_gs (knd := PySem.strKind X.prog X.w) (ks := ss) (items := its.toArray) (I.ok.hd hc) il.isList (fun i v e => ?_) (by simpa using ln) (by unfold scanBound; omega) fun h' tk L kp G hm hL => ?_
  · have hi : i < ss.length := by
      have := (Array.getElem?_eq_some_iff.mp e).1
      simp at this; omega
    obtain ⟨t, ev⟩ := SS.strs_at st i v (by simpa using e)
    refine ⟨ss[i], List.getElem?_eq_getElem hi, ?_⟩
    have e2 : ss.getD i Str.empty = ss[i] := by simp [List.getD, hi]
    rw [ev, e2]
    exact ⟨strKind_is _ _ _ _, rfl, .inr ⟨_, _, rfl⟩⟩
  · have hn : H s.heap.objs.size = none := I.hok.fresh (Nat.le_refl _)
    exact ⟨.ref s.heap.objs.size, _, I.laid (t' := tk) kp (Nat.le_refl _) (gs_ok G), rfl, q _ L hn hm hL⟩
def rSortS (P : Program) (w : World) : List V → Hp → VK → Prop := fun xs H Q => ∃ (a : Addr) (L : List Str), xs = [.ref a] ∧ H a = some (.ext fun h => GS (PySem.strKind P w) h a L) ∧ L.length < 60 ∧
  ∀ (ss : List Str) (p : Addr), sortedS ss = true → ss.Nodup → (∀ x, x ∈ ss ↔ x ∈ L) → ss.length ≤ L.length → H p = none → Q (.ref p) (upd H p (.lst (ss.map V.str)))
theorem cr_sortS (hc : X.calm = true) : CallR X (.builtin "sorted") (rSortS X.prog X.w) := by
  intro pins s σ H xs us Q I r h
  obtain ⟨a, L, rfl, ha, hl, q⟩ := h
  obtain ⟨u, rfl, ru⟩ := vals1 r
  obtain rfl : u = Value.ref a := ru
  have G : GS (PySem.strKind X.prog X.w) s.heap a L := (I.hok a _ ha).1
  refine sorted_gs G (I.ok.hd hc) (by omega) fun s' p out c ss k g o hp hg hi hs nd hm hl' => ?_
  have hlen : (ss.map V.str).length ≤ sizeLine := by rw [List.length_map, sizeLine_eq]; omega
  have hn : H p = none := I.hok.fresh hp
  have J : Inv X pins σ (upd H p (.lst (ss.map V.str))) { s with heap := s'.heap, gens := s'.gens, drawn := s'.drawn, toks := s'.toks } :=
    I.call (ch := []) (Un.laid k hp hn) (I.hok.laid k hp ⟨hlen, out.toList, c, vals_of_strs hi, hg⟩) (by rw [g]; exact I.bare) (fun _ z => nomatch z)
  have e : s' = { s with heap := s'.heap, gens := s'.gens, drawn := s'.drawn, toks := s'.toks } := by
    obtain ⟨_, _, _, _, _⟩ := s'
    obtain ⟨_, _, _, _, _⟩ := s
    cases o
    rfl
  rw [e]
  exact ⟨.ref p, _, J, rfl, q ss p hs nd hm hl' hn⟩
end
end Gs

set_option Elab.async false
set_option linter.all false
set_option maxRecDepth 100000
set_option maxHeartbeats 4000000
namespace Own
open PySem L2 Lay PySem.Spec PyProof.Rows ClX
/-! ### lists of entries -/
/-- x is a tuple that is the entry e -/
def EntT (H : Hp) (x : V) (e : Ent) : Prop := ∃ t, x = .ref t ∧ H t = some (.tup [.int e.1, .int e.2.1, .str e.2.2])
inductive EL (H : Hp) : List V → List Ent → Prop where
  | nil : EL H [] []
  | cons {x : V} {e : Ent} {xs : List V} {es : List Ent} (h : EntT H x e) (r : EL H xs es) : EL H (x :: xs) (e :: es)
section
variable {H H' : Hp} {x y : V} {e f : Ent} {xs ys : List V} {es fs : List Ent}
theorem EntT.same (h : EntT H x e) (s : Same H H') : EntT H' x e := by
  obtain ⟨t, rfl, h⟩ := h
  exact ⟨t, rfl, s _ _ h⟩
theorem EntT.fn (h : EntT H x e) (h' : EntT H x f) : e = f := by
  obtain ⟨t, rfl, h⟩ := h
  obtain ⟨t', z, h'⟩ := h'
  cases z
  rw [h] at h'
  obtain ⟨a, b, c⟩ := e
  obtain ⟨a', b', c'⟩ := f
  simp only [Option.some.injEq, HO.tup.injEq, List.cons.injEq, V.int.injEq, V.str.injEq, and_true] at h'
  obtain ⟨rfl, rfl, rfl⟩ := h'
  rfl
theorem EL.same (h : EL H xs es) (s : Same H H') : EL H' xs es := by
  induction h with
  | nil => exact .nil
  | cons h _ ih => exact .cons (h.same s) ih
theorem EL.len (h : EL H xs es) : xs.length = es.length := by
  induction h with
  | nil => rfl
  | cons _ _ ih => rw [List.length_cons, List.length_cons, ih]
theorem EL.app (h : EL H xs es) (g : EL H ys fs) : EL H (xs ++ ys) (es ++ fs) := by
  induction h with
  | nil => exact g
  | cons h _ ih => exact .cons h ih
theorem EL.at (h : EL H xs es) {i : Nat} (q : xs[i]? = some x) : ∃ e, es[i]? = some e ∧ EntT H x e := by
  induction h generalizing i with
  | nil => simp at q
  | cons h _ ih =>
    cases i with
    | zero => simp at q; subst q; exact ⟨_, rfl, h⟩
    | succ i => simp at q; obtain ⟨e, h1, h2⟩ := ih q; exact ⟨e, by simpa using h1, h2⟩
theorem EL.of_at (n : xs.length = es.length) (h : ∀ (i : Nat) (x : V) (e : Ent), xs[i]? = some x → es[i]? = some e → EntT H x e) : EL H xs es := by
  induction xs generalizing es with
  | nil => cases es with | nil => exact .nil | cons _ _ => cases n
  | cons x xs ih =>
    cases es with
    | nil => cases n
    | cons e es => exact .cons (h 0 _ _ rfl rfl) (ih (Nat.succ.inj n) fun i x e a b => h (i + 1) x e a b)
theorem EL.mem (h : EL H xs es) (q : x ∈ xs) : ∃ e ∈ es, EntT H x e := by
  obtain ⟨i, hi⟩ := List.mem_iff_getElem?.mp q
  obtain ⟨e, h1, h2⟩ := h.at hi
  exact ⟨e, List.mem_of_getElem? h1, h2⟩
theorem EL.take (h : EL H xs es) (n : Nat) : EL H (xs.take n) (es.take n) := by
  induction h generalizing n with
  | nil => simp; exact .nil
  | cons h _ ih =>
    cases n with
    | zero => simp; exact .nil
    | succ n => simp; exact .cons h (ih n)
theorem EL.drop (h : EL H xs es) (n : Nat) : EL H (xs.drop n) (es.drop n) := by
  induction h generalizing n with
  | nil => simp; exact .nil
  | cons h r ih =>
    cases n with
    | zero => simp; exact .cons h r
    | succ n => simp; exact ih n
/-- what the heap says of a tuple -/
def entOf (H : Hp) : V → Ent
  | .ref t => match H t with
    | some (.tup [.int a, .int b, .str c]) => (a, b, c)
    | _ => (0, 0, "")
  | _ => (0, 0, "")
theorem EntT.of (h : EntT H x e) : entOf H x = e := by
  obtain ⟨t, rfl, h⟩ := h
  show (match H t with | some (.tup [.int a, .int b, .str c]) => (a, b, c) | _ => (0, 0, "")) = e
  rw [h]
theorem EL.map (h : EL H xs es) : es = xs.map (entOf H) := by
  induction h with
  | nil => rfl
  | cons h _ ih => rw [List.map_cons, h.of, ← ih]
theorem EL.of_map (h : ∀ x ∈ xs, EntT H x (entOf H x)) : EL H xs (xs.map (entOf H)) := by
  induction xs with
  | nil => exact .nil
  | cons x xs ih => exact .cons (h x (List.mem_cons_self ..)) (ih fun y hy => h y (List.mem_cons_of_mem _ hy))
theorem EL.ents (h : EL H xs es) : ∀ x ∈ xs, EntT H x (entOf H x) := fun x hx => by
  obtain ⟨e, _, q⟩ := h.mem hx
  rw [q.of]; exact q
theorem EL.perm (h : EL H xs es) (p : ys.Perm xs) : EL H ys (ys.map (entOf H)) ∧ (ys.map (entOf H)).Perm es := by
  refine ⟨.of_map fun y hy => h.ents y (p.mem_iff.mp hy), ?_⟩
  rw [h.map]
  exact p.map _
end
/-! ### < and sorted -/
/-- what x < y says -/
inductive Cm (H : Hp) : V → V → Bool → Prop where
  | ent {x y : V} {e f : Ent} (h : EntT H x e) (g : EntT H y f) : Cm H x y (entLt e f)
  | str (a b : Str) : Cm H (.str a) (.str b) (strLt a b)
section
variable {X : Cx}
theorem isE_of {pins : List (Addr × Obj)} {σ : L2.St} {H : Hp} {s : Shared} {x : V} {u : Value} {e : Ent} (I : Inv X pins σ H s) (r : RelV x u) (h : EntT H x e) : IsE s.heap u e := by
  obtain ⟨t, rfl, h⟩ := h
  cases (show u = Value.ref t from r)
  obtain ⟨_, its, rv, o, ho, hc, n, hd⟩ := (show ObjOk X.prog X.w H s.heap t (.tup _) from I.hok t _ h)
  cases rv with
  | cons r1 rv =>
    cases rv with
    | cons r2 rv =>
      cases rv with
      | cons r3 rv =>
        cases rv
        obtain ⟨t1, rfl⟩ := r1
        obtain ⟨t2, rfl⟩ := r2
        obtain ⟨t3, rfl⟩ := r3
        exact ⟨t, o, t1, t2, t3, n, rfl, ho, hc, hd⟩
def rLtV : R2 := fun x y H Q => ∃ b, Cm H x y b ∧ Q (.bl b) H
theorem op_ltV (hu : X.A.units < cLine) : OpR X (compareOp .Lt) rLtV := by
  intro pins s σ H x y v u Q I rx ry h
  obtain ⟨b, c, q⟩ := h
  cases c with
  | str a b => exact op_lt_str pins s σ H _ _ v u Q I rx ry ⟨a, b, rfl, rfl, q⟩
  | @ent x y e f h g =>
    obtain ⟨a, o, t1, t2, t3, n, rfl, ho, hc, hd⟩ := isE_of I rx h
    obtain ⟨a', o', u1, u2, u3, n', rfl, ho', hc', hd'⟩ := isE_of I ry g
    obtain ⟨x1, x2, x3⟩ := e
    obtain ⟨y1, y2, y3⟩ := f
    have R := Ob.RcOp.tuples_lt (A := X.A) (s := s) (e := fun j => match j with | 0 => decide (x1 = y1) | 1 => decide (x2 = y2) | _ => decide (x3 = y3)) (r := fun j => match j with | 0 => decide (x1 < y1) | 1 => decide (x2 < y2) | _ => strLt x3 y3)
      ⟨o, ho, hc, n, hd⟩ ⟨o', ho', hc', n', hd'⟩ hu (fun j h1 h2 => ?_) (fun j h1 h2 _ => ?_)
    · have z : wpAny (model X.prog X.w) X.A (compareOp .Lt (.ref a) (.ref a')) (EP X pins σ Q) X.xe s := by
        refine R X.prog X.w X.xe (EP X pins σ Q) ?_
        refine ⟨.bl (entLt (x1, x2, x3) (y1, y2, y3)), H, I, ?_, q⟩
        show Value.bool _ = Value.bool _
        congr 1
        show Ob.lexAt _ _ (decide (3 < 3)) 0 3 = _
        simp only [Ob.lexAt, entLt]
        by_cases c1 : x1 = y1
        · by_cases c2 : x2 = y2
          · by_cases c3 : x3 = y3
            · subst c3; simp [c1, c2, tot_str.irr]
            · simp [c1, c2, c3]
          · simp [c1, c2]
        · simp [c1]
      exact z
    · have bq : ∀ {α : Type} [DecidableEq α] (p q : α), (p == q) = decide (p = q) := fun p q => by
        by_cases z : p = q
        · rw [decide_eq_true z]; exact beq_iff_eq.mpr z
        · rw [decide_eq_false z]; exact beq_eq_false_iff_ne.mpr z
      match j, h1, h2 with
      | 0, _, _ => show SeqAt.EqAt _ _ (.int x1 t1) (.int y1 u1) (decide (x1 = y1)); rw [← bq]; exact SeqAt.EqAt.int_int _ _ _ _
      | 1, _, _ => show SeqAt.EqAt _ _ (.int x2 t2) (.int y2 u2) (decide (x2 = y2)); rw [← bq]; exact SeqAt.EqAt.int_int _ _ _ _
      | 2, _, _ =>
        show SeqAt.EqAt _ _ (.str x3 t3) (.str y3 u3) (decide (x3 = y3))
        have z := SeqAt.EqAt.str_str (A := X.A.in1) (s := s) x3 t3 y3 u3
        have e : (x3 == y3) = decide (x3 = y3) := by
          by_cases c : x3 = y3
          · subst c; simp
          · rw [decide_eq_false c]; exact beq_eq_false_iff_ne.mpr c
        rw [e] at z; exact z
      | j + 3, h1, _ => exact absurd h1 (by simp)
    · match j, h1, h2 with
      | 0, _, _ => exact Ob.RcOp.lt_int _ _ _ _
      | 1, _, _ => exact Ob.RcOp.lt_int _ _ _ _
      | 2, _, _ => exact fun prog w E Q hq => PyProof.Rows.lt_str hq
      | j + 3, h1, _ => exact absurd h1 (by simp)
/-- sorted(xs), xs a list of entries -/
def rSortE (K : PySem.W.Frag) : List V → Hp → VK → Prop := fun vs H Q => ∃ (a : Addr) (xs : List V) (es : List Ent), vs = [.ref a] ∧ SqL K H a xs ∧ EL H xs es ∧
  ∀ ys fs p, EL H ys fs → Sd entLt fs → fs.Perm es → H p = none → Q (.ref p) (upd H p (.lst ys))
theorem cr_sortE : CallR X (.builtin "sorted") (rSortE X.K) := by
  intro pins s σ H vs us Q I r h
  obtain ⟨a, xs, es, rfl, hs, el, q⟩ := h
  obtain ⟨its, rv, hl, hz⟩ := I.list hs
  obtain ⟨u, rfl, ru⟩ := vals1 r
  obtain rfl : u = Value.ref a := ru
  obtain ⟨e1, e2⟩ := refs_back rv fun x m => by
    obtain ⟨e, _, t, h, _⟩ := el.mem m
    exact ⟨t, h⟩
  have hk : ∀ v ∈ its, IsE s.heap v (entOf H (backV v)) := fun v hv => by
    obtain ⟨t, rfl⟩ := e2 v hv
    have hm : V.ref t ∈ xs := by rw [e1]; exact List.mem_map.mpr ⟨_, hv, rfl⟩
    exact isE_of I (x := .ref t) rfl (el.ents _ hm)
  refine SrtO.sorted_ord (ltv := fun v u => entLt (entOf H (backV v)) (entOf H (backV u))) ⟨fun x y => tot_ent.swo.asym _ _, fun x y z => tot_ent.swo.tr _ _ _⟩ hl.isList (by rw [← rv.length]; exact hz) (fun h2 h₁ b hb kk => ?_) fun out hs hb => ?_
  · refine ents_sortableO (s := { s with heap := h₁ }) (k := fun v => entOf H (backV v)) (by omega) (fun v hv => (hk v hv).keeps fun b o e _ => (kk b o e).2) fun o e => ?_
    have e' : some o = some (seqObj "list" its.toArray 0) := e.symm.trans hb
    cases e'
    intro c
    exact absurd (Value.type.inj c) (by decide)
  · obtain ⟨n, hn⟩ := sortedAll_at s.heap its out.toArray
    have h3 : ∀ u ∈ out, ∃ a, u = Value.ref a := fun u hu => e2 u (hb.perm.mem_iff.mp hu)
    have pm : (out.map backV).Perm xs := by rw [e1]; exact hb.perm.map _
    obtain ⟨el2, pm2⟩ := el.perm pm
    have hlen : (out.map backV).length ≤ sizeLine := by rw [pm.length_eq]; exact hz
    refine ⟨.ref _, upd H (s.heap.objs.size + 1) (.lst (out.map backV)), I.laid (t' := s.toks) (fun _ _ => sortedAll_old) (Nat.le_succ _) ⟨hlen, out, n, vals_back h3, hn⟩, rfl, q _ _ _ el2 ?_ pm2 (I.hok.fresh (Nat.le_succ _))⟩
    have z : out.Pairwise (fun v u => entLt (entOf H (backV u)) (entOf H (backV v)) = false) := hs
    show ((out.map backV).map (entOf H)).Pairwise _
    rw [List.map_map]
    exact List.Pairwise.map _ (fun a b h => h) z
end
end Own

set_option Elab.async false
set_option linter.all false
set_option maxRecDepth 100000
set_option maxHeartbeats 4000000
namespace Own
open PySem L2 Lay PySem.Spec PyProof.Rows ClX
section
variable {X : Cx} {k : Nat} {f g C : Addr} {sp : Sp}
/-- the answer is a truth, a count, a text -/
def asB (Q : VK) : VK := fun v H => ∃ b, v = .bl b ∧ Q (.bl b) H
def asN (Q : VK) : VK := fun v H => ∃ i : Nat, v = .int i ∧ i < 1000000 ∧ Q (.int i) H
def asS (Q : VK) : VK := fun v H => ∃ z, v = .str z ∧ Q (.str z) H
theorem run_own {pins : List (Addr × Obj)} {σ : L2.St} {H : Hp} {s : Shared} {A : Around} {us : List Value} {vs : List V} {Q : VK} (F : FnP X.prog X.w X.K X.mg X.base k g sp) (hr : Room k A) (hg : A.guards = some []) (e0 : Env0 X.prog X.w X.K X.mg X.base A X.stack s H)
    (I : Inv X pins σ H s) (r : Vals vs us) (h : sp vs H Q E0) : wpAny (model X.prog X.w) A (call (.ref g) us) (EP X pins σ Q) X.xe s := wpAny_call (run_P F hr hg e0 I r h)
/-- x in o -/
def rInP (C : Addr) (sp : Sp) : R2 := fun x y H Q => ∃ a dx fs, y = .ref a ∧ H a = some (.ins C dx fs) ∧ sp [.ref a, x] H (asB Q) E0
theorem op_inP (hs : PySem.W.findIn X.K (.ref C) "__contains__" = some (some (.ref g))) (hf : PySem.W.isFn X.K (.ref g) = true) (F : FnP X.prog X.w X.K X.mg X.base k g sp) (hr : Room k X.A) (hg : X.A.guards = some []) : OpR X (compareOp .In) (rInP C sp) := by
  intro pins s σ H x y v u Q I rx ry h
  obtain ⟨a, dx, fs, rfl, ha, q⟩ := h
  cases (show u = Value.ref a from ry)
  obtain ⟨mA, O, _⟩ := ins_get I.hok ha
  obtain ⟨od, J, _⟩ := O.look
  show wpAny (model X.prog X.w) X.A (contains (Value.ref a) v >>= fun b => pure (Value.bool b)) (EP X pins σ Q) X.xe s
  refine wpAny_bind (PySem.W.own_contains I.kIn J hs hf (wpAny_mono (run_own (vs := [.ref a, x]) (us := [.ref a, v]) F hr hg I.env0 I (.cons rfl (.cons rx .nil)) q) (fun w s' z => ?_) fun _ _ e => e))
  obtain ⟨v', H', I', rv, b, rfl, q'⟩ := z
  cases (show w = Value.bool b from rv)
  exact ⟨b, rfl, wpAny_pure ⟨.bl b, H', I', rfl, q'⟩⟩
/-- len(o) -/
def rLenP (C : Addr) (sp : Sp) : List V → Hp → VK → Prop := fun xs H Q => ∃ a dx fs, xs = [.ref a] ∧ H a = some (.ins C dx fs) ∧ sp [.ref a] H (asN Q) E0
theorem call_lenP (hs : PySem.W.findIn X.K (.ref C) "__len__" = some (some (.ref g))) (hf : PySem.W.isFn X.K (.ref g) = true) (F : FnP X.prog X.w X.K X.mg X.base k g sp) (hr : Room (k + 1) X.A) (hg : X.A.guards = some []) : CallR X (.builtin "len") (rLenP C sp) := by
  intro pins s σ H xs us Q I r h
  obtain ⟨a, dx, fs, rfl, ha, q⟩ := h
  obtain ⟨u, rfl, ru⟩ := vals1 r
  obtain rfl : u = Value.ref a := ru
  obtain ⟨mA, O, _⟩ := ins_get I.hok ha
  obtain ⟨od, J, _⟩ := O.look
  obtain ⟨m, hF⟩ := I.fr
  refine PySem.W.len_K hF I.ok.mod.kin J hs hf (wpAny_mono (run_own (vs := [.ref a]) (us := [.ref a]) F hr.in1 (g_in1 hg) I.env0.in1 I (.cons rfl .nil) q) (fun w s' z => ?_) fun _ _ e => e)
  obtain ⟨v', H', I', rv, i, rfl, hi, q'⟩ := z
  obtain ⟨t, rfl⟩ := rv
  exact ⟨⟨by omega, by omega⟩, ⟨.int i, H', I'.tok _, ⟨_, rfl⟩, q'⟩⟩
/-- repr(o) -/
def rReprP (C : Addr) (sp : Sp) : List V → Hp → VK → Prop := fun xs H Q => ∃ a dx fs, xs = [.ref a] ∧ H a = some (.ins C dx fs) ∧ sp [.ref a] H (asS Q) E0
theorem call_reprP (hs : PySem.W.findIn X.K (.ref C) "__repr__" = some (some (.ref g))) (hf : PySem.W.isFn X.K (.ref g) = true) (F : FnP X.prog X.w X.K X.mg X.base k g sp) (hr : Room (k + 1) X.A) (hg : X.A.guards = some []) : CallR X (.builtin "repr") (rReprP C sp) := by
  intro pins s σ H xs us Q I r h
  obtain ⟨a, dx, fs, rfl, ha, q⟩ := h
  obtain ⟨u, rfl, ru⟩ := vals1 r
  obtain rfl : u = Value.ref a := ru
  obtain ⟨mA, O, _⟩ := ins_get I.hok ha
  obtain ⟨od, J, _⟩ := O.look
  obtain ⟨m, hF⟩ := I.fr
  refine PySem.W.repr_K hr.in1.units0 hF I.ok.mod.kin J hs hf (wpAny_mono (run_own (vs := [.ref a]) (us := [.ref a]) F hr.in1 (g_in1 hg) I.env0.in1 I (.cons rfl .nil) q) (fun w s' z => ?_) fun _ _ e => e)
  obtain ⟨v', H', I', rv, b, rfl, q'⟩ := z
  obtain ⟨t, rfl⟩ := rv
  exact ⟨.str b, H', I', ⟨t, rfl⟩, q'⟩
/-- o == y, o != y -/
def rEqP (K : PySem.W.Frag) (C : Addr) (sp : Sp) (neg : Bool) : R2 := fun x y H Q => ∃ a dx fs t, x = .ref a ∧ H a = some (.ins C dx fs) ∧ TyX K H y t ∧ PySem.W.notFirst K C t = true ∧
  sp [.ref a, y] H (fun v H' => ∃ b, v = .bl b ∧ Q (.bl (if neg then !b else b)) H') E0
theorem op_eqP (hs : PySem.W.findIn X.K (.ref C) "__eq__" = some (some (.ref g))) (hf : PySem.W.isFn X.K (.ref g) = true) (F : FnP X.prog X.w X.K X.mg X.base k g sp) (hr : Room k X.A) (hg : X.A.guards = some []) : OpR X (compareOp .Eq) (rEqP X.K C sp false) := by
  intro pins s σ H x y v u Q I rx ry h
  obtain ⟨a, dx, fs, t, rfl, ha, ty, nf, q⟩ := h
  cases (show v = Value.ref a from rx)
  obtain ⟨mA, O, _⟩ := ins_get I.hok ha
  obtain ⟨od, J, _⟩ := O.look
  obtain ⟨m, hF⟩ := I.fr
  obtain ⟨Pz, Z, pz, _⟩ := kit_of I ry ty
  show wpAny (model X.prog X.w) X.A (richCompare .Eq (.ref a) u) (EP X pins σ Q) X.xe s
  refine PySem.W.cmp_K (op := .Eq) (tb := t) hr.units0 hF I.ok.mod.kin J (Z.ty _ _ I.kIn pz) nf hs hf (wpAny_mono (run_own (vs := [.ref a, y]) (us := [.ref a, u]) F hr hg I.env0 I (.cons rfl (.cons ry .nil)) q) (fun w s' z => ?_) fun _ _ e => e)
  obtain ⟨v', H', I', rv, b, rfl, q'⟩ := z
  cases (show w = Value.bool b from rv)
  exact ⟨.bl b, H', I', rfl, q'⟩
theorem op_neP (hs : PySem.W.findIn X.K (.ref C) "__eq__" = some (some (.ref g))) (hf : PySem.W.isFn X.K (.ref g) = true) (hne : PySem.W.findIn X.K (.ref C) "__ne__" = some (some (.builtin "object.__ne__"))) (hm : PySem.W.mroIn X.K C (.type "object") = some true)
    (F : FnP X.prog X.w X.K X.mg X.base k g sp) (hr : Room (k + 1) X.A) (hg : X.A.guards = some []) : OpR X (compareOp .NotEq) (rEqP X.K C sp true) := by
  intro pins s σ H x y v u Q I rx ry h
  obtain ⟨a, dx, fs, t, rfl, ha, ty, nf, q⟩ := h
  cases (show v = Value.ref a from rx)
  obtain ⟨mA, O, _⟩ := ins_get I.hok ha
  obtain ⟨od, J, _⟩ := O.look
  obtain ⟨Pz, Z, pz, _⟩ := kit_of I ry ty
  show wpAny (model X.prog X.w) X.A (richCompare .NotEq (.ref a) u) (EP X pins σ Q) X.xe s
  refine PySem.W.own_ne (tb := t) (by have := hr.un; omega) I.kIn J (Z.ty _ _ I.kIn pz) nf hs hf hne hm (wpAny_mono (run_own (vs := [.ref a, y]) (us := [.ref a, u]) F hr.in1 (g_in1 hg) I.env0.in1 I (.cons rfl (.cons ry .nil)) q) (fun w s' z => ?_) fun _ _ e => e)
  obtain ⟨v', H', I', rv, b, rfl, q'⟩ := z
  cases (show w = Value.bool b from rv)
  exact ⟨b, rfl, .bl (!b), H', I', rfl, q'⟩
/-! ### texts of tuples -/
/-- repr(t), t a tuple -/
def rReprT (K : PySem.W.Frag) : List V → Hp → VK → Prop := fun xs H Q => ∃ (p : Addr) (as : List Addr) (ys : List V) (ts : List Str), xs = [.ref p] ∧ H p = some (.tup ys) ∧ Rp.SwL K H as ys ts ∧ p ∉ as ∧ as.length ≤ 30 ∧
  (tupleText ts).length ≤ sizeLine ∧ Q (.str (tupleText ts)) H
theorem call_reprT (hg : X.A.guards = some []) (hu : X.A.units + 200 < cLine) : CallR X (.builtin "repr") (rReprT X.K) := by
  intro pins s σ H xs us Q I r h
  obtain ⟨p, as, ys, ts, rfl, hp, l, hn, ha, hz, q⟩ := h
  obtain ⟨u, rfl, e⟩ := vals1 r
  cases (show u = Value.ref p from e)
  obtain ⟨_, its, rv, o, e1, e2, m, e3⟩ := (show ObjOk X.prog X.w H s.heap p (.tup ys) from I.hok p _ hp)
  have al := Rp.swl_repr I.hok I.kIn l rv (fun t ht => Nat.le_trans (tupleText_mem_le ht) hz)
  refine call_repr_slot (by omega) ⟨_, e1, e2⟩ F.slot_tuple_repr ?_
  refine call_tuple_reprK (A := X.A.in1) e1 e2 e3 hn (by simpa using al) (g := []) (by simpa using hg) (fun b _ => Clear.nil b) (by show X.A.units + 1 + (2 * as.length + 1) < cLine; omega)
    (fun _ _ e => e) (fun h' u tk kp => ⟨_, _, rfl, ⟨.str (tupleText ts), H, I.kept (t' := tk) kp, ⟨_, rfl⟩, q⟩⟩) hz
/-- {t!r} -/
def tFmtT2 (K : PySem.W.Frag) (te : TE) : TE := fun σ H Q => te σ H fun x H1 => ∃ (p : Addr) (as : List Addr) (ys : List V) (ts : List Str), x = .ref p ∧ H1 p = some (.tup ys) ∧ Rp.SwL K H1 as ys ts ∧ p ∉ as ∧ as.length ≤ 30 ∧
  (tupleText ts).length ≤ sizeLine ∧ Q (.str (tupleText ts)) H1
theorem pe_fmtT2 {e : Expr} {te : TE} {pos : Pos} (hg : X.A.guards = some []) (hu : X.A.units + 200 < cLine) (he : PE X e te) : PE X (.FormattedValue e 114 none pos) (tFmtT2 X.K te) := by
  refine ⟨fun pins s σ H Q I h => ?_⟩
  refine wpAny_FormattedValue_repr (thn (he.run pins s σ H _ I h) fun v s1 hv => ?_)
  obtain ⟨x, H1, I1, r1, p, as, ys, ts, rfl, hp, l, hn, ha, hz, q⟩ := hv
  cases (show v = Value.ref p from r1)
  obtain ⟨_, its, rv, o, e1, e2, m, e3⟩ := (show ObjOk X.prog X.w H1 s1.heap p (.tup ys) from I1.hok p _ hp)
  have al := Rp.swl_repr I1.hok I1.kIn l rv (fun t ht => Nat.le_trans (tupleText_mem_le ht) hz)
  have fin : ∀ h' u tk, (∀ b o, s1.heap.get? b = some o → h'.get? b = some o) → wpAny (model X.prog X.w) X.A (formatField (.str (tupleText ts) u) Str.empty) (EP X pins σ Q) X.xe { s1 with heap := h', toks := tk } := fun h' u tk kp =>
    wpAny_formatField_str ⟨.str (tupleText ts), H1, I1.kept (t' := tk) kp, ⟨_, rfl⟩, q⟩ ⟨.str (tupleText ts), H1, I1.kept (t' := tk + 1) kp, ⟨_, rfl⟩, q⟩ hz
  unfold pyReprObj
  refine wpAny_bind (wpAny_cRoomFor (by omega) ?_)
  refine wpAny_bind (wpAny_specialOf (name := Str.ofString "__repr__") (T := "tuple") ⟨_, e1, e2⟩ F.slot_tuple_repr.lookup ?_)
  refine wpAny_bind (m := callSpecialIfBound? (.ref p) (Str.ofString "__repr__")) (wpAny_callSpecialIfBound?_slotG (name := Str.ofString "__repr__") (T := "tuple") ⟨_, e1, e2⟩ F.slot_tuple_repr ?_)
  refine call_tuple_reprK (A := X.A) e1 e2 e3 hn (by simpa using al) (g := []) hg (fun b _ => Clear.nil b) (by omega) (fun _ _ e => e) (fun h' u tk kp => ?_) hz
  exact wpAny_bind (wpAny_isInstance (T := "str") (b := true) rfl isSubtype_str_str (wpAny_pure (fin h' u tk kp)))
end
end Own

set_option Elab.async false
set_option linter.all false
set_option maxRecDepth 100000
set_option maxHeartbeats 4000000
namespace Own
open PySem L2 Lay PySem.Spec PyProof.Rows ClX
/-! ### x in t, t a tuple of data of any depth -/
def rInT (K : PySem.W.Frag) : R2 := fun x y H Q => ∃ d ds, Dp K H x d ∧ Dp K H y (.tuple ds) ∧ SeqAt.shaped d = true ∧ SeqAt.shaped (.tuple ds) = true ∧ Q (.bl (ds.any fun z => PyData.eqv z d)) H
theorem op_inT {X : Cx} (hu : X.A.units + 66 < cLine) : OpR X (compareOp .In) (rInT X.K) := by
  intro pins s σ H x y v u Q I rx ry h
  obtain ⟨d, ds, hd, he, sd, se, q⟩ := h
  obtain ⟨as, r1⟩ := Dp.reads I d x v hd rx
  obtain ⟨bs, r2⟩ := Dp.reads I (.tuple ds) y u he ry
  have l1 := SeqAt.canLay_of_shaped se
  exact SeqAt.in_tuple_reads r2 r1 l1 (SeqAt.canLay_of_shaped sd) (by
    have z : decide (d.depth ≤ 64) = true := (Bool.and_eq_true_iff.mp sd).2
    have := of_decide_eq_true z
    omega) ⟨.bl _, H, I, rfl, q⟩
/-! ### entries as data -/
def eD (e : Ent) : PyData := .tuple [.int e.1, .int e.2.1, .str e.2.2]
/-- a name whose text can be laid -/
def NmOk (e : Ent) : Prop := PyData.strOk e.2.2 = true
theorem eD_lay {e : Ent} (h : NmOk e) : (eD e).canLay0 = true := by
  have h : PyData.strOk e.2.2 = true := h
  simp [eD, PyData.canLay0, PyData.canLayAll0, h]
theorem eD_dep (e : Ent) : (eD e).depth ≤ 1 := by simp [eD, PyData.depth, PyData.depthAll]
theorem eD_sh {e : Ent} (n : NmOk e) : SeqAt.shaped (eD e) = true := by
  have h := eD_dep e
  show ((eD e).canLay0 && decide ((eD e).depth ≤ 64)) = true
  rw [eD_lay n, decide_eq_true (by omega)]; rfl
theorem eDs_lay : ∀ es : List Ent, (∀ e ∈ es, NmOk e) → PyData.canLayAll0 (es.map eD) = true
  | [], _ => by simp [PyData.canLayAll0]
  | e :: es, h => by simp [PyData.canLayAll0, eD_lay (h e (List.mem_cons_self ..)), eDs_lay es fun f hf => h f (List.mem_cons_of_mem _ hf)]
theorem eDs_dep : ∀ es : List Ent, PyData.depthAll (es.map eD) ≤ 1
  | [] => by simp [PyData.depthAll]
  | e :: es => by
    have h1 := eDs_dep es
    have h2 := eD_dep e
    simp only [List.map_cons, PyData.depthAll]
    omega
theorem eDs_sh {es : List Ent} (n : ∀ e ∈ es, NmOk e) : SeqAt.shaped (.tuple (es.map eD)) = true := by
  have h := eDs_dep es
  show (PyData.canLay0 (.tuple (es.map eD)) && decide (PyData.depth (.tuple (es.map eD)) ≤ 64)) = true
  rw [Bool.and_eq_true]
  exact ⟨by simp only [PyData.canLay0]; exact eDs_lay es n, decide_eq_true (by simp only [PyData.depth]; omega)⟩
theorem eDs_shL {es : List Ent} (n : ∀ e ∈ es, NmOk e) : SeqAt.shaped (.list (es.map eD)) = true := by
  have h := eDs_dep es
  show (PyData.canLay0 (.list (es.map eD)) && decide (PyData.depth (.list (es.map eD)) ≤ 64)) = true
  rw [Bool.and_eq_true]
  exact ⟨by simp only [PyData.canLay0]; exact eDs_lay es n, decide_eq_true (by simp only [PyData.depth]; omega)⟩
theorem eD_eqv (e f : Ent) : PyData.eqv (eD e) (eD f) = decide (e = f) := by
  obtain ⟨a, b, c⟩ := e
  obtain ⟨a', b', c'⟩ := f
  have z : PyData.eqv (eD (a, b, c)) (eD (a', b', c')) = ((a == a') && ((b == b') && ((c == c') && true))) := by simp only [eD, PyData.eqv, PyData.eqvAll]
  rw [z]
  by_cases h : ((a, b, c) : Ent) = (a', b', c')
  · cases h; simp
  · rw [decide_eq_false h, Bool.eq_false_iff]
    intro q
    apply h
    simp at q
    obtain ⟨q1, q2, q3⟩ := q
    rw [q1, q2, q3]
theorem any_eD (es : List Ent) (e : Ent) : ((es.map eD).any fun z => PyData.eqv z (eD e)) = decide (e ∈ es) := by
  induction es with
  | nil => rfl
  | cons f es ih =>
    rw [List.map_cons, List.any_cons, ih, eD_eqv]
    by_cases h : f = e
    · subst h; simp
    · have h' : ¬ e = f := fun z => h z.symm
      simp [h, h']
theorem eqv_eDs (es fs : List Ent) : PyData.eqvAll (es.map eD) (fs.map eD) = decide (es = fs) := by
  induction es generalizing fs with
  | nil => cases fs <;> simp [PyData.eqvAll]
  | cons e es ih =>
    cases fs with
    | nil => simp [PyData.eqvAll]
    | cons f fs =>
      rw [List.map_cons, List.map_cons, PyData.eqvAll, eD_eqv, ih]
      by_cases h : e = f <;> by_cases g : es = fs <;> simp [h, g]
theorem eqvT (es fs : List Ent) : PyData.eqv (.tuple (es.map eD)) (.tuple (fs.map eD)) = decide (es = fs) := by rw [PyData.eqv]; exact eqv_eDs es fs
theorem eqvL (es fs : List Ent) : PyData.eqv (.list (es.map eD)) (.list (fs.map eD)) = decide (es = fs) := by rw [PyData.eqv]; exact eqv_eDs es fs
section
variable {K : PySem.W.Frag} {H : Hp} {x : V} {e : Ent} {xs : List V} {es : List Ent}
theorem EntT.dp (h : EntT H x e) : Dp K H x (eD e) := by
  obtain ⟨t, rfl, h⟩ := h
  exact .tup (SqT.of h) (.cons (.int _) (.cons (.int _) (.cons (.str _) .nil)))
theorem EL.dp (h : EL H xs es) : DpAll K H xs (es.map eD) := by
  induction h with
  | nil => exact .nil
  | cons h _ ih => exact .cons h.dp ih
end
/-! ### enumerate(t), t a tuple -/
def IteT (K : PySem.W.Frag) (a : Addr) : It :=
  ⟨fun i H => ∃ (xs : List V) (x : V), SqT K H a xs ∧ xs[i]? = some x, fun i H v H' => ∃ T x, v = .ref T ∧ H T = none ∧ H' = upd H T (.tup [.int (i : Nat), x]) ∧ ∀ xs, SqT K H a xs → xs[i]? = some x, fun i H => ∃ xs : List V, SqT K H a xs ∧ xs.length = i⟩
theorem walk_enumT {K : PySem.W.Frag} {a : Addr} {xs : List V} : Walk (IteT K a) xs.length (fun H => SqT K H a xs) (YPair (fun i => some (.int (i : Nat))) (fun i => xs[i]?)) := by
  refine ⟨fun i _ hi q => ⟨xs, xs[i], q, by simp [hi]⟩, fun _ q => ⟨xs, q, rfl⟩, fun i H v H' _ q y => ?_⟩
  obtain ⟨T, x, h1, h2, h3, h4⟩ := y
  exact ⟨T, .int (i : Nat), x, h1, h2, h3, rfl, h4 xs q⟩
end Own

set_option Elab.async false
set_option linter.all false
set_option maxRecDepth 100000
set_option maxHeartbeats 4000000
namespace Own
open PySem L2 Lay PySem.Spec PyProof.Rows ClX
/-! ### enumerate(t) -/
theorem new_enum1 {v : Value} {o : Obj} {G : Heap → Prop} (B : Begins v o G) :
    Meets (Builtin.«enumerate.__new__» ⟨[.type "enumerate", v], []⟩) (fun _ R s => G s.heap ∧
      R (.ok (.ret (.ref (s.heap.push o).objs.size))) { s with heap := (s.heap.push o).push { cls := .type "enumerate", data := .fields #[.none, .bool false, .ref s.heap.objs.size, rawInt 0, .none, .none] } }) :=
  .of_wp fun prog w A R s h => by
    obtain ⟨hp, g, d, tk, os⟩ := s
    obtain ⟨h1, h⟩ := h
    have hsub := sub_enumerate
    have it : ∀ {A' : Around} {E : Value → Shared → Prop} {Q : Value → Shared → Prop}, Q (.ref hp.objs.size) ⟨hp.push o, g, d, tk, os⟩ → wpAny (model prog w) A' (pyIter v) Q E ⟨hp, g, d, tk, os⟩ := fun q => B.iter prog w _ _ ⟨hp, g, d, tk, os⟩ _ h1 q
    wp_walk using it
    refine wpAny_stack_any fun st => wpAny_pure ?_
    split
    · rename_i c _ _ _ _ _
      cases (c == Value.type "enumerate") <;> (wp_walk using it; exact ⟨_, rfl, h⟩)
    · wp_walk using it
      exact ⟨_, rfl, h⟩
theorem call_enum1 {prog : Program} {w : World} {A : Around} {E : Value → Shared → Prop} {s : Shared} {v : Value} {o : Obj} {G : Heap → Prop} {Q : Value → Shared → Prop} (B : Begins v o G) (g : G s.heap)
    (h : ∀ h', IsEnum h' (s.heap.objs.size + 1) s.heap.objs.size 0 .none → h'.get? s.heap.objs.size = some o → (∀ b u, s.heap.get? b = some u → h'.get? b = some u) → Q (.ref (s.heap.objs.size + 1)) { s with heap := h' }) :
    wpAny (model prog w) A (call (.type "enumerate") [v]) Q E s := by
  refine callType_new F.called_enumerate (by decide) (F.typeCall_enumerate_1 _) (F.newCall_enumerate_1 _) (fun obj => F.args_object_init_2 obj _) F.entry_enumerate_new (new_enum1 B) ⟨g, ?_⟩
  have sz : (s.heap.push o).objs.size = s.heap.objs.size + 1 := Heap.size_push ..
  have e : IsEnum ((s.heap.push o).push { cls := .type "enumerate", data := .fields #[.none, .bool false, .ref s.heap.objs.size, rawInt 0, .none, .none] }) (s.heap.objs.size + 1) s.heap.objs.size 0 .none := by
    rw [← sz]
    exact Heap.get?_push_size _ rfl
  show _ ∧ _
  rw [sz]
  exact ⟨⟨_, e, rfl⟩, h _ e (Heap.get?_push_of_some _ (Heap.get?_push_size _ B.free)) fun b u q => Heap.get?_push_of_some _ (Heap.get?_push_of_some _ q)⟩
theorem turn_enumT {P : Program} {w : World} {K : PySem.W.Frag} {elts : List Expr} {kk : Nat} {tpos : Pos} (a e it : Addr) :
    Turn P w K (.Tuple elts kk tpos) (IteT K a) [e, it] e (fun i h => (∃ old, IsEnum h e it ((i : Nat) : Int) old) ∧ h.IsTupleIter it a i ∧ e ≠ it) where
  mem := by simp
  obj := fun i h st b hb => by
    obtain ⟨⟨old, he⟩, ⟨o, ho, hc, hd⟩, _⟩ := st
    rcases List.mem_cons.mp hb with z | z
    · subst z; exact ⟨_, he, fun v q => nomatch q⟩
    · obtain rfl := List.mem_singleton.mp z
      exact ⟨o, ho, fun v q => by rw [hd] at q; cases q⟩
  keep := fun i h h' st k => by
    obtain ⟨⟨old, he⟩, hi, ne⟩ := st
    exact ⟨⟨old, k e (by simp) _ he⟩, hi.at fun o q => k it (by simp) o q, ne⟩
  item := by
    intro X hP hw hK hc i pins s σ H E I hf st hg
    subst hP hw hK
    obtain ⟨⟨old, he⟩, hit, ne⟩ := st
    obtain ⟨xs, x, hq, hx⟩ := hg
    obtain ⟨its, rv, p, hz⟩ := I.tuple hq
    obtain ⟨u, hu, ru⟩ := rv.get hx
    have hel : e < s.heap.objs.size := Heap.lt_size he
    have hil : it < s.heap.objs.size := by obtain ⟨_, q, _⟩ := hit; exact Heap.lt_size q
    have eL : e ≠ a := fun z => by
      obtain ⟨o, ho, hcl, _⟩ := p
      subst z
      rw [show s.heap.get? e = some _ from he] at ho
      cases ho
      exact absurd (Value.type.inj hcl) (by decide)
    have iL : a ≠ it := fun z => by
      obtain ⟨o, ho, hcl, _⟩ := p
      obtain ⟨o', ho', hcl', _⟩ := hit
      subst z
      rw [ho] at ho'
      cases ho'
      rw [hcl] at hcl'
      exact absurd (Value.type.inj hcl') (by decide)
    have D := PySem.Draws.tuple (prog := X.prog) (w := X.w) (A := X.A.in1) (by simpa using I.ok.hd hc) it a iL its.toArray
    have hlt : i < its.toArray.size := by
      have := (List.getElem?_eq_some_iff.mp hu).1
      simpa using this
    refine wpAny_pyNext_enum_itemD D he ⟨hit, p⟩ hlt ne (by simp [ne, eL]) fun y h' tk py ho hst hT hsz hk => ?_
    have ey : y = u := by
      have q : its.toArray[i]? = some y := py
      rw [show its.toArray[i]? = its[i]? by simp, hu] at q
      exact (Option.some.inj q).symm
    subst ey
    refine ⟨_, rfl, wpAny_letOwnedTupleGo_enum (s := { s with heap := h', toks := tk + 1 }) ho fun h'' he' sb => ?_⟩
    have hT2 : h''.get? s.heap.objs.size = some { cls := .type "tuple", data := .seq #[.int i tk, y] } := (sb.2 _ (Nat.ne_of_gt hel)).trans hT
    have new : ObjOk X.prog X.w (upd H s.heap.objs.size (.tup [.int (i : Nat), x])) h'' s.heap.objs.size (.tup [.int (i : Nat), x]) :=
      ⟨by show 2 ≤ sizeLine; decide, [.int i tk, y], .cons ⟨_, rfl⟩ (.cons ru .nil), ⟨_, hT2, rfl, _, rfl⟩⟩
    have I1 : Inv X pins σ (upd H s.heap.objs.size (.tup [.int (i : Nat), x])) { s with heap := h'', toks := tk + 1 } :=
      I.turnedNew (ch := [e, it]) (fun b ob hb q => (sb.2 b (fun z => hb (by simp [z]))).trans (hk b ob (fun z => hb (by simp [z])) (fun z => hb (by simp [z])) q)) hf (Nat.le_refl _) new
    refine ⟨.ref s.heap.objs.size, _, I1, rfl, ⟨_, x, rfl, I.hok.fresh (Nat.le_refl _), rfl, fun ys hy => ?_⟩, ⟨⟨y, ?_⟩, hst.1.at fun o q => (sb.2 it (Ne.symm ne)).trans q, ne⟩, fun b hb => ?_⟩
    · rw [I.tuple_inj hy hq]; exact hx
    · have e1 : ((i + 1 : Nat) : Int) = (i : Int) + 1 := by omega
      rw [e1]; exact he'
    · have hb' : b < s.heap.objs.size := by
        rcases List.mem_cons.mp hb with z | z
        · rw [z]; exact hel
        · rw [List.mem_singleton.mp z]; exact hil
      rw [upd_ne (Nat.ne_of_lt hb')]
      exact (hf b hb).1
  done := by
    intro X hP hw hK hc i pins s σ H E I hf st hg
    subst hP hw hK
    obtain ⟨⟨old, he⟩, hit, ne⟩ := st
    obtain ⟨xs, hq, hx⟩ := hg
    obtain ⟨its, rv, p, hz⟩ := I.tuple hq
    obtain ⟨f0, f1, f2, f3, f4, f5⟩ := hf it (by simp)
    have iL : a ≠ it := fun z => by
      obtain ⟨o, ho, hcl, _⟩ := p
      obtain ⟨o', ho', hcl', _⟩ := hit
      subst z
      rw [ho] at ho'
      cases ho'
      rw [hcl] at hcl'
      exact absurd (Value.type.inj hcl') (by decide)
    have ei : its.toArray.size = i := by rw [List.size_toArray, ← rv.length]; exact hx
    subst ei
    have D := PySem.Draws.tuple (prog := X.prog) (w := X.w) (A := X.A.in1) (by simpa using I.ok.hd hc) it a iL its.toArray
    exact wpAny_pyNext_enum_endD D he ⟨hit, p⟩ fun h' eb => ⟨rfl, I.turned (t' := s.toks) (fun b o hb q => eb b o hb q) f0 f1 f3 f4 f5⟩
  self := fun A i s Q E st h => by
    obtain ⟨⟨_, he⟩, _⟩ := st
    exact wpAny_pyIter_enum he h
def iEnumT (K : PySem.W.Frag) (ta : TA) : TI := fun σ H R => ta σ H fun vs H1 => ∃ a xs, vs = [.ref a] ∧ SqT K H1 a xs ∧ R (IteT K a) H1
theorem pi_enumT {X : Cx} {e : Expr} {ta : TA} {p pos tpos : Pos} {elts : List Expr} {kk : Nat} (hg : Gl X "enumerate") (hm : X.mg "enumerate" = none) (ha : PA X [e] ta) (hs : starEach [e] X.env = [(false, eval e X.env)] := by rfl) :
    PI X (.Tuple elts kk tpos) (.Call (.Name "enumerate" p) [e] [] pos) (iEnumT X.K ta) := by
  refine ⟨fun pins s σ H R I h => ?_⟩
  refine Call_ (ld_blt I hg hm boot_enumerate (PyProof.Rows.callWith_type1 (thn (ha.run pos pins s σ H _ I h) fun us s1 ⟨vs, H1, I1, r1, a, xs, ex, hq, q⟩ => ?_) hs rfl))
  subst ex
  obtain ⟨u, rfl, ru⟩ := vals1 r1
  obtain rfl : u = Value.ref a := ru
  obtain ⟨its, rv, p', hz⟩ := I1.tuple hq
  refine call_enum1 (begins_tuple a its.toArray) p' fun h' he hit hk => wpAny_pyIter_enum he ?_
  have I2 : Inv X pins σ H1 { s1 with heap := h' } := I1.kept (t' := s1.toks) hk
  refine ⟨s1.heap.objs.size + 1, [s1.heap.objs.size + 1, s1.heap.objs.size], _, _, H1, rfl, I2, turn_enumT a (s1.heap.objs.size + 1) s1.heap.objs.size, ⟨⟨.none, he⟩, ⟨_, hit, rfl, rfl⟩, Nat.succ_ne_self _⟩, fun b hb => ?_, q⟩
  have hle : s1.heap.objs.size ≤ b := by
    rcases List.mem_cons.mp hb with z | z
    · rw [z]; exact Nat.le_succ _
    · rw [List.mem_singleton.mp z]; exact Nat.le_refl _
  exact I1.fpOk hle (I1.hok.fresh hle)
end Own

set_option Elab.async false
set_option linter.all false
set_option maxRecDepth 100000
set_option maxHeartbeats 4000000
namespace Rx
open PySem L2 Lay Own PySem.Spec PyProof.Rows
/-! ### defs that may raise, no text of an object being made -/
abbrev FnGX (P : Program) (w : World) (K : PySem.W.Frag) (mg : Str → Option Value) (base : Heap) (k : Nat) (f : Addr) (fd : FuncData) (ps : List Str) (sp : Sp) : Prop :=
  FnG P w K mg base (L2.CX P w) k f fd ps sp
/-- .. called with values by place -/
def FnPX (P : Program) (w : World) (K : PySem.W.Frag) (mg : Str → Option Value) (base : Heap) (k : Nat) (g : Addr) (sp : Sp) : Prop :=
  ∀ (A : Around) (outer : List Env) (s : Shared) (H : Hp) (us : List Value) (vs : List V) (Q : VK) (E : XK), Room k A → A.guards = some [] → Env0 P w K mg base A outer s H → Vals vs us →
    sp vs H Q E → codeAny (model P w) A (.call (.ref g) ⟨us, []⟩) (CR (L2.CX P w) outer P w H s Q E) s
def DfX (P : Program) (w : World) (K : PySem.W.Frag) (mg : Str → Option Value) (base : Heap) (k : Nat) (x : Str) (ps : List Str) (sp : Sp) : Prop :=
  ∃ f fd, FnGX P w K mg base k f fd ps sp ∧ mg x = some (.ref f) ∧ PySem.W.keepIn K (.ref f) = true ∧ Binds K fd ps [] ∧ Kw1 fd ps
section
variable {P : Program} {w : World} {K : PySem.W.Frag} {mg : Str → Option Value} {base : Heap} {x qual : Str} {st : Stmt} {f : Addr} {fd : FuncData} {N ps : List Str} {j k : Nat} {sp sp' : Sp} {g : Addr}
theorem okGX (F : Fun K x qual st f fd) (S : FnScope N ps (defScope st)) (len : ∀ vs H Q E, sp vs H Q E → vs.length = ps.length)
    (hbody : ∀ (cdv : Value) (A : Around) (outer : List Env) (s : Shared) (H : Hp) (vs : List V) (Q : VK) (E : XK), Room k (A.deeper (envOfC qual (defScope st) s.heap.objs.size f cdv)) → A.guards = some [] →
      sp vs H Q E → ∃ t, PSs (cxOf (L2.CX P w) P w K mg base N qual (defScope st) f cdv A outer s H E) (defBody st) t ∧ t { nx := fun _ H' => Q .non H', rt := Q } (start N vs) H) :
    FnGX P w K mg base (k + 1) f fd ps sp := by
  obtain ⟨oc, od, kV, doc, pm, an, cdv, ct, osl, rfl, lk, hcd⟩ := F.ex
  exact fnG_of lk hcd S len fun A outer s H vs Q E hr hg hsp => hbody cdv A outer s H vs Q E hr hg hsp
theorem srcX (S : Src K mg x st ps) (sc : FnScope N ps (defScope st)) (len : ∀ vs H Q E, sp vs H Q E → vs.length = ps.length)
    (hbody : ∀ (f : Addr) (cdv : Value) (A : Around) (outer : List Env) (s : Shared) (H : Hp) (vs : List V) (Q : VK) (E : XK), Room k (A.deeper (envOfC x (defScope st) s.heap.objs.size f cdv)) → A.guards = some [] →
      sp vs H Q E → ∃ t, PSs (cxOf (L2.CX P w) P w K mg base N x (defScope st) f cdv A outer s H E) (defBody st) t ∧ t { nx := fun _ H' => Q .non H', rt := Q } (start N vs) H) :
    DfX P w K mg base (k + 1) x ps sp := by
  obtain ⟨f, fd, F, g, b⟩ := S
  exact ⟨f, fd, okGX F sc len (hbody f), g, F.kp, b⟩
theorem FnPX.ofG (F : FnGX P w K mg base k g fd ps sp) (b : Binds K fd ps []) : FnPX P w K mg base k g sp := by
  intro A outer s H us vs Q E hr hg e0 r h
  have hl : us.length = ps.length := by rw [← r.length]; exact F.len _ _ _ _ h
  have b1 := b s us (e0.mod.kin.keeps fun b o e => (e0.bs b o e).1) (by rw [List.append_nil]; exact hl)
  rw [List.append_nil] at b1
  exact F.run A outer s H ⟨us, []⟩ us vs Q E hr hg e0 b1 r h
theorem FnPX.mono (F : FnPX P w K mg base j g sp) (h : j ≤ k) : FnPX P w K mg base k g sp := fun A outer s H us vs Q E hr => F A outer s H us vs Q E (hr.mono h)
/-- around a def's body: its wish -/
theorem takesD {cdv : Value} {A : Around} {outer : List Env} {s : Shared} {H : Hp} {E : XK} {sc : Scope} : Takes (cxOf (L2.CX P w) P w K mg base N qual sc f cdv A outer s H E) (fun cls d _ H' => E cls d H') :=
  takes_of rfl rfl rfl rfl
theorem leaveD {cdv : Value} {A : Around} {outer : List Env} {s : Shared} {H : Hp} {E : XK} {sc : Scope} :
    PassesOwn (model P w) (cxOf (L2.CX P w) P w K mg base N qual sc f cdv A outer s H E).A (cxOf (L2.CX P w) P w K mg base N qual sc f cdv A outer s H E).env (cxOf (L2.CX P w) P w K mg base N qual sc f cdv A outer s H E).xe := PassesOwn.leaving
end
/-! ### calls of them -/
/-- what a context wishes of an exception, at these slots -/
def wAt (W : WX) (σ : L2.St) : XK := fun cls d H => W cls d σ H
def tGX (W : WX) (sp : Sp) (t : TA) : TE := fun σ H Q => t σ H fun vs H1 => sp vs H1 Q (wAt W σ)
section
variable {X : Cx} {W : WX} {k : Nat} {f g C : Addr} {fd : FuncData} {ps : List Str} {sp : Sp} {pins : List (Addr × Obj)} {σ : L2.St} {H : Hp} {s : Shared} {Q : VK} {us : List Value} {vs : List V}
theorem back_X (tk : Takes X W) (I : Inv X pins σ H s) {r : Result} {s' : Shared} (hq : CR (L2.CX X.prog X.w) X.stack X.prog X.w H s Q (wAt W σ) r s') :
    (match (generalizing := false) r with | .ok (.ret v) => EP X pins σ Q v s' | .ok _ => False | .error x => X.xe x s') := by
  cases r with
  | error e => exact tk e s' (XE.of_call I (fun _ _ _ z => z) hq)
  | ok fl =>
    cases fl with
    | ret u => exact I.after hq
    | next => exact False.elim hq
    | brk => exact False.elim hq
    | cont => exact False.elim hq
theorem run_GX {args : Args} (tk : Takes X W) (F : FnGX X.prog X.w X.K X.mg X.base k f fd ps sp) (hr : Room k X.A) (hg : X.A.guards = some []) (I : Inv X pins σ H s)
    (hb : BindsTo s fd args (ps.zip us)) (r : Vals vs us) (h : sp vs H Q (wAt W σ)) :
    codeAny (model X.prog X.w) X.A (.call (.ref f) args) (fun r s' => match r with | .ok (.ret v) => EP X pins σ Q v s' | .ok _ => False | .error x => X.xe x s') s :=
  codeAny_mono (F.run X.A X.stack s H args us vs Q _ hr hg I.env0 hb r h) fun _ _ hq => back_X tk I hq
theorem run_PX {A : Around} (tk : Takes X W) (F : FnPX X.prog X.w X.K X.mg X.base k g sp) (hr : Room k A) (hg : A.guards = some []) (e0 : Env0 X.prog X.w X.K X.mg X.base A X.stack s H) (I : Inv X pins σ H s) (r : Vals vs us) (h : sp vs H Q (wAt W σ)) :
    codeAny (model X.prog X.w) A (.call (.ref g) ⟨us, []⟩) (fun r s' => match r with | .ok (.ret v) => EP X pins σ Q v s' | .ok _ => False | .error x => X.xe x s') s :=
  codeAny_mono (F A X.stack s H us vs Q _ hr hg e0 r h) fun _ _ hq => back_X tk I hq
end
section
variable {X : Cx} {W : WX} {x nm m : Str} {ps : List Str} {sp : Sp} {k : Nat} {f g C p0 : Addr} {mc : Value} {o e : Expr} {es : List Expr} {t : TA} {te ta : TE} {p pos kpos apos sp_ p1 : Pos} {pl : Sem Bool}
/-- f(e, ..) -/
theorem pe_ownX (tk : Takes X W) (D : DfX X.prog X.w X.K X.mg X.base k x ps sp) (hr : Room k X.A) (hgd : X.A.guards = some []) (ht : PA X (e :: es) t) (hg : Gl X x := by rfl) (hdb : (x == ("__debug__" : Str)) = false := by decide)
    (hs : starEach (e :: es) X.env = (false, eval e X.env) :: starEach es X.env := by rfl) (hpl : (backTo pos (starEach es X.env)).any (·.1) = false := by rfl) :
    PE X (.Call (.Name x p) (e :: es) [] pos) (tGX W sp t) := by
  obtain ⟨f, fd, F, g, kp, b, _⟩ := D
  refine ⟨fun pins s σ H Q I h => wpAny_Call_Name_kw (ld_glob I hg g ?_ hdb)⟩
  refine PySem.W.callWith_K (h₀ := X.base) I.ok.mod.kin kp (thn (ht.run pos pins s σ H _ I h) fun us s1 ⟨vs, H1, I1, r, q⟩ => ⟨I1.kIn, ?_⟩) hs hpl
  have b1 := b s1 us I1.kIn (by rw [List.append_nil, ← r.length]; exact F.len _ _ _ _ q)
  rw [List.append_nil] at b1
  exact wpAny_call (run_GX tk F hr hgd I1 b1 r q)
/-! making -/
def tMakeX (W : WX) (C : Addr) (sp : Sp) (t : TA) : TE := fun σ H Q => t σ H fun vs H1 => ∀ x dx, H1 x = Option.none → H1 dx = Option.none → dx ≠ x →
  sp (V.ref x :: vs) (upd (upd H1 dx (.own x)) x (.ins C dx [])) (fun v H2 => v = .non ∧ Q (.ref x) H2) (wAt W σ)
theorem run_makeX {pins : List (Addr × Obj)} {σ : L2.St} {H : Hp} {s : Shared} {Q : VK} {us : List Value} {vs : List V} (tk : Takes X W) (M : Mk X.K C f) (F : FnPX X.prog X.w X.K X.mg X.base k f sp) (hr : Room (k + 1) X.A) (hg : X.A.guards = some []) (I : Inv X pins σ H s) (r : Vals vs us)
    (h : ∀ x dx, H x = Option.none → H dx = Option.none → dx ≠ x → sp (V.ref x :: vs) (upd (upd H dx (.own x)) x (.ins C dx [])) (fun v H2 => v = .non ∧ Q (.ref x) H2) (wAt W σ)) :
    wpAny (model X.prog X.w) X.A (call (.ref C) us) (EP X pins σ Q) X.xe s := by
  have hq := h (s.heap.objs.size + 1) s.heap.objs.size (I.hok.fresh (Nat.le_succ _)) (I.hok.fresh (Nat.le_refl _)) (Nat.ne_of_lt (Nat.lt_succ_self _))
  have I2 := Inv.made (C := C) I
  have r2 : Vals (V.ref (s.heap.objs.size + 1) :: vs) (Value.ref (s.heap.objs.size + 1) :: us) := .cons rfl r
  have run := F _ X.stack _ _ _ _ _ _ (hr.make C us []) (g_under hg) (I2.env0.make C us []) r2 hq
  refine wpAny_call (make_map (f := f) I.kIn M.makes M.init (beq_iff_eq.mp M.fn) (codeAny_mono run fun r s' hq' => ?_))
  cases r with
  | error e => exact tk e s' (XE.of_call I2 (fun _ _ _ z => z) hq')
  | ok fl =>
    cases fl with
    | ret u =>
      obtain ⟨v, H', I3, rv, ev, q3⟩ := I2.after hq'
      subst ev
      exact ⟨rv, ⟨V.ref (s.heap.objs.size + 1), H', I3, rfl, q3⟩⟩
    | next => exact False.elim hq'
    | brk => exact False.elim hq'
    | cont => exact False.elim hq'
/-- C(e, ..) -/
theorem pe_makeX (tk : Takes X W) (M : Mk X.K C f) (F : FnPX X.prog X.w X.K X.mg X.base k f sp) (hr : Room (k + 1) X.A) (hgd : X.A.guards = some []) (hm : X.mg x = some (.ref C)) (ha : PA X (e :: es) t) (hg : Gl X x := by rfl) (hdb : (x == ("__debug__" : Str)) = false := by decide)
    (he : starEach (e :: es) X.env = (false, eval e X.env) :: starEach es X.env := by rfl) (hpl : (backTo pos (starEach es X.env)).any (·.1) = false := by rfl) : PE X (.Call (.Name x p1) (e :: es) [] pos) (tMakeX W C sp t) := by
  refine ⟨fun pins s σ H Q I h => wpAny_Call_Name_kw (ld_glob I hg hm ?_ hdb)⟩
  refine PySem.W.callWith_K (h₀ := X.base) I.ok.mod.kin M.kp (thn (ha.run pos pins s σ H _ I h) fun us s1 ⟨vs, H1, I1, r, q⟩ => ⟨I1.kIn, ?_⟩) he hpl
  exact run_makeX tk M F hr hgd I1 r q
/-- C() -/
theorem pe_makeX0 (tk : Takes X W) (M : Mk X.K C f) (F : FnPX X.prog X.w X.K X.mg X.base k f sp) (hr : Room (k + 1) X.A) (hgd : X.A.guards = some []) (hm : X.mg x = some (.ref C)) (hg : Gl X x := by rfl) (hdb : (x == ("__debug__" : Str)) = false := by decide) :
    PE X (.Call (.Name x p1) [] [] pos) (tMakeX W C sp tNil) := by
  refine ⟨fun pins s σ H Q I h => wpAny_Call_Name_kw (ld_glob I hg hm ?_ hdb)⟩
  exact PySem.W.callWith_K0 I.kIn M.kp (run_makeX tk M F hr hgd I .nil h)
/-- C(*e) -/
theorem pe_makeSX (tk : Takes X W) (M : Mk X.K C f) (F : FnPX X.prog X.w X.K X.mg X.base k f sp) (hr : Room (k + 1) X.A) (hgd : X.A.guards = some []) (hm : X.mg x = some (.ref C)) (he : PE X e te) (hg : Gl X x := by rfl) (hdb : (x == ("__debug__" : Str)) = false := by decide)
    (hst : starEach [.Starred e sp_] X.env = [(true, eval e X.env)] := by rfl) : PE X (.Call (.Name x p1) [.Starred e sp_] [] pos) (tMakeX W C sp (tStar1 X.K te)) := by
  refine ⟨fun pins s σ H Q I h => wpAny_Call_Name_kw (ld_glob I hg hm ?_ hdb)⟩
  refine PySem.W.callWith_S (h₀ := X.base) I.ok.mod.kin M.kp (thn (he.run pins s σ H _ I h) fun v s1 ⟨y, H1, I1, ry, a, xs, ey, hxs, q⟩ => ?_) hst
  subst ey
  cases (show v = Value.ref a from ry)
  exact StX.star_any I1 hxs fun us s2 I2 rv => ⟨I2.kIn, run_makeX tk M F hr hgd I2 rv q⟩
/-! static methods -/
def tStaX (W : WX) (C : Addr) (sp : Sp) (te : TE) (t : TA) : TE := fun σ H Q => te σ H fun x H1 => x = .ref C ∧ t σ H1 fun vs H2 => sp vs H2 Q (wAt W σ)
theorem pe_staX (tk : Takes X W) (he : PE X o te) (r : ClX.CRead X.K C mc) (c : CSta X.K C mc m p0 g) (F : FnPX X.prog X.w X.K X.mg X.base k g sp) (hr : Room k X.A) (hgd : X.A.guards = some []) (ha : PA X (e :: es) t)
    (hst : starEach (e :: es) X.env = (false, eval e X.env) :: starEach es X.env := by rfl) (hpl : (backTo pos (starEach es X.env)).any (·.1) = false := by rfl)
    (ht : eval (.Call (.Attribute o m apos) (e :: es) [] pos) X.env = (do
      let ov ← eval o X.env
      standAt apos.atName
      let (f, first) ← holding [ov] (getMethod ov m pl)
      callWith pos f first (backTo pos (starEach (e :: es) X.env)) (backToKw pos (keywordEach [] X.env))) := by rfl) :
    PE X (.Call (.Attribute o m apos) (e :: es) [] pos) (tStaX W C sp te t) := by
  refine ⟨fun pins s σ H Q I h => ?_⟩
  refine PySem.W.methodCall_KW (pl := pl) (thn (he.run pins s σ H _ I h) fun u s1 ⟨x, H1, I1, rx, ex, q⟩ => ?_) ht
  subst ex
  cases (show u = Value.ref C from rx)
  refine getmethst_ok I1 r c fun s2 I2 => ?_
  refine PySem.W.callWith_K (first := []) (h₀ := X.base) I2.ok.mod.kin c.kp (thn (ha.run pos pins s2 σ H1 _ I2 q) fun us s3 ⟨vs, H2, I3, rv, q2⟩ => ⟨I3.kIn, ?_⟩) hst hpl
  exact wpAny_call (run_PX tk F hr hgd I3.env0 I3 rv q2)
theorem pe_staKX {fd : FuncData} {q : Str} {kws : List Keyword} {tkw : TA} (tk : Takes X W) (he : PE X o te) (r : ClX.CRead X.K C mc) (c : CSta X.K C mc m p0 g) (F : FnGX X.prog X.w X.K X.mg X.base k g fd [q] sp) (b : Kw1 fd [q]) (hr : Room k X.A) (hgd : X.A.guards = some [])
    (hkw : PK X kws tkw) (hall : (backToKw pos (keywordEach kws X.env)).all (·.1.isSome) = true := by rfl) (hks : (backToKw pos (keywordEach kws X.env)).filterMap (·.1) = [q] := by rfl)
    (hpl : ((backTo pos (starEach [] X.env)).any (·.1) || (backToKw pos (keywordEach kws X.env)).any (·.1.isNone)) = false := by rfl)
    (ht : eval (.Call (.Attribute o m apos) [] kws pos) X.env = (do
      let ov ← eval o X.env
      standAt apos.atName
      let (f, first) ← holding [ov] (getMethod ov m pl)
      callWith pos f first (backTo pos (starEach [] X.env)) (backToKw pos (keywordEach kws X.env))) := by rfl) :
    PE X (.Call (.Attribute o m apos) [] kws pos) (tStaX W C sp te tkw) := by
  refine ⟨fun pins s σ H Q I h => ?_⟩
  refine PySem.W.methodCall_KW (pl := pl) (thn (he.run pins s σ H _ I h) fun u s1 ⟨x, H1, I1, rx, ex, q⟩ => ?_) ht
  subst ex
  cases (show u = Value.ref C from rx)
  refine getmethst_ok I1 r c fun s2 I2 => ?_
  refine PySem.W.callWith_KW0 (h₀ := X.base) I2.ok.mod.kin c.kp hall ?_ hpl
  refine thn (hkw.run pos pins s2 σ H1 _ I2 q) fun ws s3 ⟨zs, H2, I3, rz, q2⟩ => ⟨I3.kIn, ?_⟩
  rw [hks]
  have hl : zs.length = 1 := F.len _ _ _ _ q2
  cases rz with
  | nil => cases hl
  | @cons z u zr ur h1 more =>
    cases more with
    | cons _ _ => cases hl
    | nil =>
      have b1 : BindsTo s3 fd ⟨[], [(_, u)]⟩ ([_].zip [u]) := .of_eq (b _ u rfl)
      exact wpAny_call (run_GX tk F hr hgd I3 (us := [u]) (vs := [z]) b1 (.cons h1 .nil) q2)
end
end Rx

set_option Elab.async false
set_option linter.all false
set_option maxRecDepth 100000
set_option maxHeartbeats 4000000
namespace Rx
open PySem L2 Lay Own PySem.Spec PyProof.Rows Exv
/-! ### an own error made and raised -/
section
variable {X : Cx} {x : Str} {C : Addr} {B newId initId : String} {bmB : List Value} {ps : List Str} {n : Nat} {mk : List V → List (Str × V)} {e : Expr} {es : List Expr} {t : TA} {p pos : Pos} {W : WX}
/-- C(..), to be raised: its dict tells the fields -/
def tMkR (H0 : Hp) (C : Addr) (n : Nat) (mk : List V → List (Str × V)) (t : TA) : L2.St → Hp → XK → Prop := fun σ H Q => t σ H fun vs H1 => vs.length = n ∧ mk vs ≠ [] ∧ (∀ a, H1 a = none → Fr0 H0 a) ∧ ∀ d H2, L2.Same H1 H2 → H2 d = some (exd d (mk vs)) → Q (.ref C) (some d) H2
theorem pmk_mk (hx : X.ex = []) (b : Bs B newId initId bmB) (D : Ec X.prog X.w X.K X.mg X.base x C newId bmB ps n mk) (hn : n ≤ 1000) (hr : Room 2 X.A) (ha : PA X (e :: es) t) (hg : Gl X x := by rfl)
    (hdb : (x == ("__debug__" : Str)) = false := by decide) (he : starEach (e :: es) X.env = (false, eval e X.env) :: starEach es X.env := by rfl) (hpl : (backTo pos (starEach es X.env)).any (·.1) = false := by rfl) :
    PMk X (.Call (.Name x p) (e :: es) [] pos) (tMkR X.H_0 C n mk t) := by
  obtain ⟨fI, fd, hi, tI, F, hb, _⟩ := D.ini
  intro pins s σ H Q I h
  refine wpAny_Call_Name_kw (ld_glob I hg D.g ?_ hdb)
  refine PySem.W.callWith_K (h₀ := X.base) I.ok.mod.kin D.cl.kC (thn (ha.run pos pins s σ H _ I h) fun us s1 ⟨vs, H1, I1, r, l, hne, h0, q⟩ => ⟨I1.kIn, ?_⟩) he hpl
  have hz : us.length ≤ sizeLine := by rw [← r.length, l]; exact Nat.le_trans hn (by decide)
  refine wpAny_mono (run_mk (Q := fun v H2 => ∃ a, v = .ref a ∧ H1 a = none ∧ L2.Same H1 H2 ∧ IsExc H2 a C (mk vs) vs) (ws := []) (zs := []) b D.cl hi tI F hr (kb_pos hb) I1 r .nil hz (fun a => ⟨vs, rfl, l, rfl⟩)
    fun a H2 h1 h2 h3 => ⟨a, rfl, h1, h2, h3⟩) (fun u s2 hu => ?_) fun _ _ z => z
  obtain ⟨v, H2, I2, rv, a, ev, na, sm, tt, ht, hh⟩ := hu
  subst ev
  cases (show u = Value.ref a from rv)
  rcases hh with ⟨z, _⟩ | ⟨d, ea, ed⟩
  · exact absurd z hne
  · have oa := exo_at I2.hok ea
    obtain ⟨mA, hns, _⟩ := exd_at I2.hok ed
    have nad : d ≠ a := fun z => by
      obtain ⟨od, es, ep, e1, e2, _⟩ := hns
      rw [z, oa] at e1
      cases e1
      cases e2
    obtain ⟨G, gs, ga, J⟩ := I2.untrack ea (h0 a na) hx
    refine ⟨a, _, _, { s2 with heap := G }, delH H2 a, .ref C, some d, rfl, J, gs, ga, oa, ⟨rfl, rfl⟩, rfl, rfl, delH_same, rfl, I2.bare, raises_own D.cl.exC D.cl.tyC, ?_⟩
    refine q d _ (fun b o eb => ?_) ?_
    · rw [delH_ne (ne_of_none eb na)]
      exact sm _ _ eb
    · rw [delH_ne nad]
      exact ed
end
end Rx

set_option Elab.async false
set_option linter.all false
set_option maxRecDepth 100000
set_option maxHeartbeats 4000000
namespace Rx
open PySem L2 Lay Own PySem.Spec PyProof.Rows Exv
/-! ### try, with except clauses that all name what they caught by the same name -/
/-- behind a suite its name is gone -/
def endI (i : Nat) (D : Ends) : Ends := { nx := fun τ G => D.nx (τ.set i none) G, rt := D.rt, bk := fun τ G => D.bk (τ.set i none) G, ct := fun τ G => D.ct (τ.set i none) G }
abbrev Clause := Value × (Addr → Value → Option Addr → TS)
/-- what the clauses wish, one behind the other; one of them fits -/
def wAll (K : PySem.W.Frag) (i : Nat) (D : Ends) : List Clause → WX
  | [] => fun _ _ _ _ => False
  | q :: more => fun cls d τ G => ∃ fits, PySem.W.exmOne K cls q.1 = some fits ∧ (fits = true → ∀ e, G e = none → q.2 e cls d (endI i D) (τ.set i (some (.ref e))) G) ∧ (fits = false → wAll K i D more cls d τ G)
inductive Hds (X : Cx) (n : Str) : List ExceptHandler → List Clause → Prop
  | nil : Hds X n [] []
  | cons {x : Str} {c : Value} {ts : Addr → Value → Option Addr → TS} {first : Stmt} {suite : List Stmt} {np hp : Pos} {more : List ExceptHandler} {l : List Clause} (nm : Names X x c)
      (su : ∀ (e : Addr) (ob : Obj) (cls : Value) (d : Option Addr) (pn : List (Addr × Obj)), Zc cls d ob → (∃ vs, ob.data = .fields vs) → PSs (X.suite e ((e, ob) :: pn)) (first :: suite) (ts e cls d)) (r : Hds X n more l) :
      Hds X n (.ExceptHandler (some (.Name x np)) (some n) (first :: suite) hp :: more) ((c, ts) :: l)
section
variable {X : Cx} {n : Str} {i : Nat} {body : List Stmt} {h0 : ExceptHandler} {hds : List ExceptHandler} {l : List Clause} {pos : Pos} {tb : WX → TS}
theorem ps_tryA (hs : X.stack = X.env :: X.outer) (hf : X.env.frame = some X.env.locals) (hN : X.N.Nodup) (hi : X.N[i]? = some n) (hln : X.env.kindOf n = some .local)
    (hb : ∀ (W : WX) (pn : List (Addr × Obj)) (xe : Value → Shared → Prop), Takes (X.tr pn xe) W → PassesOwn (model X.prog X.w) X.A X.env xe → PSs (X.tr pn xe) body (tb W)) (hh : Hds X n (h0 :: hds) l) :
    PS X (.Try body (h0 :: hds) [] [] pos) (fun D σ H => tb (wAll X.K i D l) D σ H) := by
  refine ⟨fun pins s σ H D I h => wpAny_Try_except ?_⟩
  have ok := I.ok
  have frames : X.A.frames = some (X.env :: X.outer) := by rw [ok.frames, hs]
  have run := (hb (wAll X.K i D l) (X.pn ++ pins) (fun e s1 => wpAny (model X.prog X.w) X.A (noteFrame e X.env) (fun _ s2 => wpAny (model X.prog X.w) X.A (setFlight e none)
    (fun _ s3 => wpAny (model X.prog X.w) X.A (handleBy e X.env (h0 :: hds)) (SP X pins D) X.xe s3) X.xe s2) X.xe s1) (fun u s' air => ?caught) PassesOwn.looking).run [] s σ H D (I.toTry _) h
  case caught =>
    obtain ⟨e, B, sI, pins', τ, G, cls, d, rfl, J', nb, up, sky, ne, os, ag, w⟩ := air
    have J : Inv X pins τ G sI := J'.ofTry ok
    rw [show (X.tr (X.pn ++ pins) (fun e s1 => wpAny (model X.prog X.w) X.A (noteFrame e X.env) (fun _ s2 => wpAny (model X.prog X.w) X.A (setFlight e none)
      (fun _ s3 => wpAny (model X.prog X.w) X.A (handleBy e X.env (h0 :: hds)) (SP X pins D) X.xe s3) X.xe s2) X.xe s1)).stack = X.env :: X.outer from hs] at sky
    refine Sky.land Zc.steady frames hf sky fun hL flL upL => ?_
    have JL : Inv X pins τ G { s' with heap := hL } := J.landed nb flL.1 (up.trans upL) os ag
    obtain ⟨obL, vsL, eL, zL, dL⟩ := flL.there
    have off : e ∉ frs (X.env :: X.outer) := fun hm => by
      obtain ⟨_, o2, e2, nf⟩ := flL.2.2.1.mem hm
      rw [eL] at e2
      cases e2
      exact nf _ dL
    have nL : e ≠ X.env.locals := fun z => off (List.mem_filterMap.mpr ⟨X.env, List.mem_cons_self, by rw [hf, z]⟩)
    have nF : e ∉ X.fs := fun hm => by
      obtain ⟨en, hen, q⟩ := List.mem_filterMap.mp hm
      exact off (List.mem_filterMap.mpr ⟨en, List.mem_cons_of_mem _ hen, q⟩)
    have SL := JL.suite eL dL ne nL nF
    suffices go : ∀ {hs' : List ExceptHandler} {l' : List Clause}, Hds X n hs' l' → wAll X.K i D l' cls d τ G → wpAny (model X.prog X.w) X.A (handleBy (.ref e) X.env hs') (SP X pins D) X.xe { s' with heap := hL } from go hh w
    intro hs' l' hk
    induction hk with
    | nil => exact fun z => False.elim z
    | @cons x c ts first suite np hp more l2 nm su r ih =>
      rintro ⟨fits, hq, yes, no⟩
      refine wpAny_handleBy_cons (codeAny_handlers_test ?_) (fun z => by cases z)
      have ty : PySem.W.Looks (model X.prog X.w) hL (typeOf (.ref e)) cls := fun A Q E s k q => wpAny_typeOf_ref (k _ _ eL) (by rw [zL.1]; exact q)
      have LM := PySem.W.exm_one (M := model X.prog X.w) JL.kIn ty hq
      have named : ∀ {Q : Value → Shared → Prop} {E : Value → Shared → Prop}, Q c { s' with heap := hL } → wpAny (model X.prog X.w) (X.A.mark (some (.ref e))) (eval (.Name x np) X.env) Q E { s' with heap := hL } := by
        intro Q E q
        rcases nm with ⟨hg, hdb, hm | ⟨hm, hv, hnn⟩⟩
        · exact ld_glob (X := X.suite e ((e, obL) :: (X.pn ++ pins))) SL hg hm q hdb
        · exact ld_blt (X := X.suite e ((e, obL) :: (X.pn ++ pins))) SL hg hm hv q hnn hdb
      refine named (LM.here ?_)
      cases fits with
      | false => exact ih (no rfl)
      | true =>
        refine codeAny_handlers_suite_as (HandSPX.lands_againZ flL fun hM flM upM => ?_)
        have JM : Inv X pins τ G { s' with heap := hM } := J.landed nb flM.1 ((up.trans upL).trans upM) os ag
        obtain ⟨obM, vsM, eM, zM, dM⟩ := flM.there
        have SM := JM.suite eM dM ne nL nF
        refine store_ok (X := X.suite e ((e, obM) :: (X.pn ++ pins))) (v := .ref e) SM hN hi (.inl hln) rfl (fun s5 S5 => ?_) (.inr hln)
        refine wpAny_mono ((su e obM cls d (X.pn ++ pins) zM ⟨_, dM⟩).run [] s5 _ G _ S5 (yes rfl e ne)) (fun f s6 hsp => ?_) (fun _ _ z => False.elim z)
        have away : ∀ {τ6 : L2.St} {G6 : Hp} {Q : Shared → Prop}, Inv (X.suite e ((e, obM) :: (X.pn ++ pins))) [] τ6 G6 s6 → (∀ s7, Inv X pins (τ6.set i none) G6 s7 → Q s7) →
            wpAny (model X.prog X.w) X.A (do bindName X.env n .none; unbindBehindTheSuite X.env n hp) (fun _ s7 => Q s7) X.xe s6 := fun S6 hq => gone_ok (S6.unsuite ok) hN hi hln hq
        cases f with
        | next => exact hsp.elim fun τ6 hsp => hsp.elim fun G6 ⟨S6, q6⟩ => away S6 fun s7 J7 => ⟨_, _, J7, q6⟩
        | brk => exact hsp.elim fun τ6 hsp => hsp.elim fun G6 ⟨S6, q6⟩ => away S6 fun s7 J7 => ⟨_, _, J7, q6⟩
        | cont => exact hsp.elim fun τ6 hsp => hsp.elim fun G6 ⟨S6, q6⟩ => away S6 fun s7 J7 => ⟨_, _, J7, q6⟩
        | ret u => exact hsp.elim fun v6 hsp => hsp.elim fun τ6 hsp => hsp.elim fun G6 ⟨S6, r6, q6⟩ => away S6 fun s7 J7 => ⟨_, _, _, J7, r6, q6⟩
  refine wpAny_mono run (fun f s1 hsp => ?_) fun _ _ z => z
  cases f with
  | next => exact hsp.elim fun τ hsp => hsp.elim fun G ⟨J, q⟩ => wpAny_execs_nil ⟨τ, G, J.ofTry ok, q⟩
  | brk => exact hsp.elim fun τ hsp => hsp.elim fun G ⟨J, q⟩ => ⟨τ, G, J.ofTry ok, q⟩
  | cont => exact hsp.elim fun τ hsp => hsp.elim fun G ⟨J, q⟩ => ⟨τ, G, J.ofTry ok, q⟩
  | ret u => exact hsp.elim fun v hsp => hsp.elim fun τ hsp => hsp.elim fun G ⟨J, r, q⟩ => ⟨v, τ, G, J.ofTry ok, r, q⟩
end
/-! ### the caught error: its fields, its class -/
section
variable {X : Cx} {a C : Addr} {ob : Obj} {cls : Value} {d : Option Addr} {pn : List (Addr × Obj)} {e : Expr} {te : TE} {pos : Pos} {f : Str} {newId : String} {bmB : List Value}
def tCf (a : Addr) (cls : Value) (d : Option Addr) (C : Addr) (f : Str) (te : TE) : TE := fun σ H Q => te σ H fun x H1 => x = .ref a ∧ cls = .ref C ∧ ∃ (dd : Addr) (fs : List (Str × V)) (v : V), d = some dd ∧ H1 dd = some (exd dd fs) ∧ fs.lookup f = some v ∧ Q v H1
theorem pe_cf (T : Cl X.K C newId bmB) (hno : PySem.W.findIn X.K (.ref C) f = some none) (hz : Zc cls d ob) (hd : ∃ vs, ob.data = .fields vs) (he : PE (X.suite a ((a, ob) :: pn)) e te) (hb : attributeBase e f X.env (eval e X.env) = eval e X.env := by rfl) :
    PE (X.suite a ((a, ob) :: pn)) (.Attribute e f pos) (tCf a cls d C f te) := by
  refine ⟨fun pins s σ H Q I h => attr_of hb (thn (he.run pins s σ H _ I h) fun u s1 ⟨x, H1, I1, rx, ex, ec, dd, fs, v, ed, ea, lk, q⟩ => ?_)⟩
  subst ex ec ed
  cases (show u = Value.ref a from rx)
  obtain ⟨at_, _⟩ := I1.pin (a, ob) (List.mem_append_left _ List.mem_cons_self)
  obtain ⟨vs, hv⟩ := hd
  obtain ⟨mA, hns, rel⟩ := exd_at I1.hok ea
  obtain ⟨od, hod, hl⟩ := lookIn_ns hns
  obtain ⟨u2, hu, ru⟩ := RelO.some_of (v := v) (o := mA f) (by rw [← lk]; exact rel f)
  have J : PySem.W.InstAt s1.heap a ob C (some od) := ⟨at_, hz.1, by unfold PySem.W.notCls; rw [hv] <;> rfl, by rw [hz.2]; exact hod⟩
  exact HandSPX.exc_get I1.kIn J T.ga T.gg T.exC (PySem.W.findObj_own T.hd hno rfl (by rw [hl, hu])) (handed_of ru) ⟨v, H1, I1.tok _, ru, q⟩
/-- isinstance(e, D) of the caught e -/
def rCi (K : PySem.W.Frag) (a : Addr) (cls : Value) (d : Option Addr) (C : Addr) : List V → Hp → VK → Prop := fun xs H Q => ∃ (c : V) (u : Value) (b : Bool) (dd : Addr) (fs : List (Str × V)), xs = [.ref a, c] ∧ cls = .ref C ∧ d = some dd ∧ H dd = some (exd dd fs) ∧ ClsV c u ∧ PySem.W.kitOne K (.ref C) u = some b ∧ Q (.bl b) H
theorem call_ci (T : Cl X.K C newId bmB) (G : Gs X.K) (hz : Zc cls d ob) (hd : ∃ vs, ob.data = .fields vs) : CallR (X.suite a ((a, ob) :: pn)) (.builtin "isinstance") (rCi X.K a cls d C) := by
  intro pins s σ H xs us Q I r h
  obtain ⟨c, u, b, dd, fs, rfl, ec, ed, ea, k, e, q⟩ := h
  obtain ⟨u1, u2, rfl, r1, r2⟩ := vals2 r
  have e2 := k.eq r2
  subst e2 ec ed
  cases (show u1 = Value.ref a from r1)
  obtain ⟨at_, _⟩ := I.pin (a, ob) (List.mem_append_left _ List.mem_cons_self)
  obtain ⟨vs, hv⟩ := hd
  have hc : (PySem.W.clsIn X.K C).isSome = true := by
    obtain ⟨cd, bm, h1, _⟩ := T.cd
    rw [h1]; rfl
  obtain ⟨mA, hns, rel⟩ := exd_at I.hok ea
  obtain ⟨od, hod, hl⟩ := lookIn_ns hns
  have J : PySem.W.InstAt s.heap a ob C (some od) := ⟨at_, hz.1, by unfold PySem.W.notCls; rw [hv] <;> rfl, by rw [hz.2]; exact hod⟩
  exact PySem.W.kia_one (PySem.Exv.kit_exc T.ga T.gg T.exC T.hd (PySem.W.findObj_data hc T.ha G.hn G.ht) T.hm) I.kIn J e (fun z => nomatch z) fun tk => ⟨.bl b, H, I.tok tk, rfl, q⟩
end
end Rx

set_option Elab.async false
set_option linter.all false
set_option maxRecDepth 100000
set_option maxHeartbeats 4000000
namespace Rx
open PySem L2 Lay Own PySem.Spec PyProof.Rows LamX
/-! ### a lambda handed to a def, the guards known -/
section
variable {X : Cx} {pins : List (Addr × Obj)} {σ : L2.St} {H : Hp} {s : Shared}
/-- the parameter called, in the def that got the lambda -/
theorem pe_actG {CXg : CXT} {Eg : XK} {Ng : List Str} {qg a : Str} {sg scope : Scope} {g f c' : Addr} {cdg pm ctv : Value} {params : Arguments} {body : Expr} {k i : Nat} {pn : List (Addr × Obj)} {xe : Value → Shared → Prop} {W : WX} {t : XK → TE} {p1 p2 : Pos}
    (I : Inv X pins σ H s) (L : LamS X.env.scope scope) (hgA : X.A.guards = some [])
    (hf : s.heap.get? f = some (PySem.W.kla_obj "<lambda>" (X.env.qual ++ "<lambda>") params body scope (cloFrom X.env.cells scope.names []) pm c' ctv)) (hfn : H f = none) (hfr : f ∉ frs X.stack)
    (bnd : bindArgs (PySem.W.kla_fn "<lambda>" (X.env.qual ++ "<lambda>") params body scope (cloFrom X.env.cells scope.names []) pm (.ref c') ctv) ⟨[], []⟩ = pure [])
    (tk : Takes ((cxOf CXg X.prog X.w X.K X.mg X.base Ng qg sg g cdg X.A X.stack s H Eg).tr pn xe) W) (hr : Room (k + 1) (X.A.deeper (envOfC qg sg s.heap.objs.size g cdg)))
    (walk : ∀ (E : XK) (A : Around) (outer : List Env) (s : Shared) (H : Hp), Room k (A.deeper (lamEnv X scope s.heap.objs.size f c')) → A.guards = some [] → PE (lamCx X A outer s H E scope f c') body (t E))
    (hN : Ng[i]? = some a) (hv : Vis sg a) (hd : (a == ("__debug__" : Str)) = false) (hcd : (a == ("__classdict__" : Str)) = false) :
    PE ((cxOf CXg X.prog X.w X.K X.mg X.base Ng qg sg g cdg X.A X.stack s H Eg).tr pn xe) (.Call (.Name a p1) [] [] p2)
      (fun τ G Q => ∃ E : XK, (∀ cls d G', E cls d G' → W cls d τ G') ∧ τ[i]? = some (some (.ref f)) ∧ G c' = some (CodeO c' (X.env.qual ++ "<lambda>")) ∧ t E σ G Q) := by
  refine ⟨fun pinsZ sZ τ G Q IZ ⟨E, hW, slot, code, rd⟩ => ?_⟩
  have name := (pe_var (X := (cxOf CXg X.prog X.w X.K X.mg X.base Ng qg sg g cdg X.A X.stack s H Eg).tr pn xe) (pos := p1) (i := i) hN hv hd hcd).run pinsZ sZ τ G (fun v G1 => v = .ref f ∧ G1 = G) IZ ⟨.ref f, slot, rfl, rfl⟩
  refine wpAny_Call_Name_kw (thn name fun u s1 ⟨v, G1, I1, r1, ev, eG⟩ => ?_)
  subst ev
  rw [eG] at I1
  cases (show u = Value.ref f from r1)
  have stays : s1.heap.get? f = some (PySem.W.kla_obj "<lambda>" (X.env.qual ++ "<lambda>") params body scope (cloFrom X.env.cells scope.names []) pm c' ctv) :=
    I1.base.keep f _ hf hfn hfr fun z => by cases (show f ∈ ([] : List Addr) from z)
  have same : Un (frs X.stack) [] H G s.heap s1.heap := I1.base
  refine PySem.W.callWith_F0 ⟨_, _, _, _, stays⟩ ?_
  obtain ⟨⟨oc, vs, t, hoc, hdc, hvc⟩, _, _⟩ := I1.hok c' _ code
  have called : codeAny (model X.prog X.w) (X.A.deeper (envOfC qg sg s.heap.objs.size g cdg)) (.call (.ref f) ⟨[], []⟩) (CR (L2.CX X.prog X.w) (envOfC qg sg s.heap.objs.size g cdg :: X.stack) X.prog X.w G s1 Q E) s1 := by
    refine PySem.W.kla_callFunE hr.depth stays rfl L.co L.gen rfl ⟨c', oc, vs, t, rfl, hoc, hdc, hvc⟩ ?_
    rw [bnd]
    refine wpAny_pure (wpAny_newFunctionEnv (fun y hy => (L.own y hy).2) (fun y hy => by cases hy) (fun h1 ns but => ⟨I1.nolimit.fresh _ but, ?_⟩) L.kind)
    show codeAny _ _ (.expr body (lamEnv X scope s1.heap.objs.size f c')) _ _
    have J : Inv (lamCx X (X.A.deeper (envOfC qg sg s.heap.objs.size g cdg)) (envOfC qg sg s.heap.objs.size g cdg :: X.stack) s1 G E scope f c') [] σ G { s1 with heap := h1, toks := s1.toks + ([] : List (Str × Value)).length } :=
      lam_start2 I L I1.env0 hr.hd same ns fun b o e => but.extBut b o (Nat.ne_of_lt (Heap.lt_size e)) (Heap.get?_push_of_some _ e)
    have ran := (walk E _ _ s1 G (hr.deeper _) hgA).run [] _ _ G Q J rd
    exact PySem.W.kla_codeExpr (wpAny_mono ran (fun v s' ⟨w', G', J', rv, q⟩ => ⟨w', G', J'.os, J'.bare, J'.base, J'.hok, rv, q⟩) fun e s' z => z)
  refine wpAny_call (codeAny_mono called fun r s' hq => ?_)
  cases r with
  | error e => exact tk e s' (XE.of_call I1 hW hq)
  | ok fl => cases fl with
    | ret u => exact I1.after hq
    | _ => exact False.elim hq
/-- the def that calls what it got; TT: what it makes of the lambda's reading -/
def GivesW (X : Cx) (Ng : List Str) (x : Str) (sg : Scope) (g : Addr) (cdg : Value) (bg : List Stmt) (a q : Str) (TT : (XK → Hp → VK → Prop) → Hp → VK → Prop) : Prop :=
  ∀ (f c' : Addr) (s : Shared) (H : Hp) (Q : VK) (tl : XK → Hp → VK → Prop),
    (∀ (W : WX) (pn : List (Addr × Obj)) (xe : Value → Shared → Prop) (p1 p2 : Pos), Takes ((cxOf C8.CX0 X.prog X.w X.K X.mg X.base Ng x sg g cdg X.A X.stack s H C8.E0).tr pn xe) W →
      PE ((cxOf C8.CX0 X.prog X.w X.K X.mg X.base Ng x sg g cdg X.A X.stack s H C8.E0).tr pn xe) (.Call (.Name a p1) [] [] p2)
        (fun τ G Q' => ∃ E : XK, (∀ cls d G', E cls d G' → W cls d τ G') ∧ τ[0]? = some (some (.ref f)) ∧ G c' = some (CodeO c' q) ∧ tl E G Q')) →
    H c' = some (CodeO c' q) → TT tl H Q →
    ∃ t, PSs (cxOf C8.CX0 X.prog X.w X.K X.mg X.base Ng x sg g cdg X.A X.stack s H C8.E0) bg t ∧ t { nx := fun _ H' => Q .non H', rt := Q } (L2.start Ng [.ref f]) H
/-- x(lambda: body), the guards known -/
theorem pe_lamG {T : List (Addr × Str)} {TT : (XK → Hp → VK → Prop) → Hp → VK → Prop} {x a : Str} {g c P : Addr} {k : Nat} {pg params : Arguments} {bg : List Stmt} {sg scope : Scope} {dV kV doc pm cdv ct oc : Value} {an od : Option Addr} {osl : Array (Option Value)} {Ng : List Str}
    {body : Expr} {t : XK → TE} {p lpos pos : Pos} (hgA : X.A.guards = some []) (hm : X.mg x = some (.ref g)) (hk : PySem.W.keepIn X.K (.ref g) = true)
    (lk : X.K.lookup g = some ⟨oc, od, .func (PySem.W.fnOf x x pg bg sg dV kV doc pm an cdv ct), osl⟩) (hcg : PySem.W.codeIn X.K cdv x = true) (hb : L2.Binds X.K (PySem.W.fnOf x x pg bg sg dV kV doc pm an cdv ct) [a] []) (Sg : FnScope Ng [a] sg) (hNg : Ng[0]? = some a) (hva : Vis sg a)
    (hG : GivesW X Ng x sg g cdv bg a (X.env.qual ++ "<lambda>") TT) (TB : TabB X.base X.mg c P) (hcode : X.env.code = .ref c) (hmT : (P, X.env.qual ++ "<lambda>") ∈ T) (hu : ∀ p ∈ T, p.1 = P → p.2 = X.env.qual ++ "<lambda>") (hr : Room (k + 2) X.A)
    (L : LamS X.env.scope scope) (hdef : defaultsOf params X.env = ([], [])) (hbind : ∀ (q : Str) (cl : List (Str × Addr)) (pm cv ctv : Value), bindArgs (PySem.W.kla_fn "<lambda>" q params body scope cl pm cv ctv) ⟨[], []⟩ = pure [])
    (walk : ∀ (A : Around) (outer : List Env) (s : Shared) (H : Hp) (E : XK) (f c' : Addr), Room k (A.deeper (lamEnv X scope s.heap.objs.size f c')) → A.guards = some [] → PE (lamCx X A outer s H E scope f c') body (t E))
    (hg : Gl X x := by rfl) (hdb : (x == ("__debug__" : Str)) = false := by decide) (hd : (a == ("__debug__" : Str)) = false := by decide) (hcd : (a == ("__classdict__" : Str)) = false := by decide) :
    PE X (.Call (.Name x p) [.Lambda params body scope lpos] [] pos) (tLam T TT t) := by
  refine ⟨fun pins s σ H Q I ⟨hT, h⟩ => wpAny_Call_Name_kw (ld_glob I hg hm (PySem.W.callWith_K (h₀ := X.base) I.ok.mod.kin hk ?_ (by rfl) (by rfl)) hdb)⟩
  show wpAny _ _ (spliced ((false, eval (.Lambda params body scope lpos) X.env) :: backTo pos (starEach [] X.env))) _ _ s
  refine Calls.spliced_cons (lam_make2 I TB hcode hmT hu hT hdef (L.has I.ok) fun f c' pm' ctv H1 s' I1 eN T1 hf hfn hfr hco => Calls.spliced_nil ⟨I1.kIn, ?_⟩)
  have called : codeAny (model X.prog X.w) X.A (.call (.ref g) ⟨[.ref f], []⟩) (CR C8.CX0 X.stack X.prog X.w H1 s' Q C8.E0) s' := by
    refine run_ofS (N := Ng) (ps := [a]) (us := [.ref f]) (vs := [.ref f]) lk hcg Sg hr I1.env0 (hb s' [.ref f] I1.kIn rfl) (.cons rfl .nil) rfl fun hr' => ?_
    have act := hG f c' s' H1 Q (fun E G Q' => t E σ G Q') (fun W pn xe p1 p2 tk => pe_actG (i := 0) (t := t) I1 L hgA hf hfn hfr (hbind _ _ _ _ _) tk hr' (fun E A outer s H hr2 hg2 => walk A outer s H E f c' hr2 hg2) hNg hva hd hcd) hco (h H1 eN T1)
    exact act
  refine wpAny_call (codeAny_mono called fun r s2 hq => ?_)
  cases r with
  | error e => exact False.elim hq
  | ok fl => cases fl with
    | ret u => exact I1.after hq
    | _ => exact False.elim hq
end
end Rx

set_option Elab.async false
set_option linter.all false
set_option maxRecDepth 100000
set_option maxHeartbeats 4000000
namespace Rx
open PySem L2 Lay Own PySem.Spec PyProof.Rows
/-! ### o.m(e), o.m(k = e), where m may raise -/
def Kw2 (fd : FuncData) (ps : List Str) : Prop := ∀ a b u v, ps = [a, b] → bindArgs fd ⟨[u], [(b, v)]⟩ = pure [(a, u), (b, v)]
section
variable {P : Program} {w : World} {K : PySem.W.Frag} {mg : Str → Option Value} {base : Heap} {f g : Addr} {fd : FuncData} {ps : List Str} {k : Nat} {sp : Sp}
theorem FnGX.of (F : FnG P w K mg base CX0 k f fd ps sp) : FnGX P w K mg base k f fd ps sp :=
  ⟨F.len, fun A outer s H args us vs Q E hr hg e0 hb r h => codeAny_mono (F.run A outer s H args us vs Q E hr hg e0 hb r h) fun r s' hq => by
    cases r with
    | error e => exact False.elim hq
    | ok fl => cases fl <;> exact hq⟩
theorem FnPX.of (F : FnP P w K mg base k g sp) : FnPX P w K mg base k g sp := fun A outer s H us vs Q E hr hg e0 r h => codeAny_mono (F A outer s H us vs Q E hr hg e0 r h) fun r s' hq => by
  cases r with
  | error e => exact False.elim hq
  | ok fl => cases fl <;> exact hq
end
section
variable {X : Cx} {W : WX} {m : Str} {ps : List Str} {sp : Sp} {k : Nat} {f g C : Addr} {fd : FuncData} {o e : Expr} {es : List Expr} {t : TA} {te : TE} {p pos apos : Pos} {pl : Sem Bool}
theorem takesNo {X : Cx} : Takes X (fun _ _ _ _ => False) := fun _ _ ⟨_, _, _, _, _, _, _, _, _, _, _, _, _, _, _, _, z⟩ => z.elim
def tMethX (W : WX) (C : Addr) (m : Str) (sp : Sp) (te : TE) (t : TA) : TE := fun σ H Q => te σ H fun x H1 => ∃ a dx fs, x = .ref a ∧ H1 a = some (.ins C dx fs) ∧ fs.lookup m = none ∧ t σ H1 fun vs H2 => sp (.ref a :: vs) H2 Q (wAt W σ)
theorem pe_methX (tk : Takes X W) (he : PE X o te) (c : Cls X.K C) (hm : Meth X.K C m f) (F : FnPX X.prog X.w X.K X.mg X.base k f sp) (hr : Room k X.A) (hgd : X.A.guards = some []) (ha : PA X (e :: es) t)
    (hst : starEach (e :: es) X.env = (false, eval e X.env) :: starEach es X.env := by rfl) (hpl : (backTo pos (starEach es X.env)).any (·.1) = false := by rfl)
    (ht : eval (.Call (.Attribute o m apos) (e :: es) [] pos) X.env = (do
      let ov ← eval o X.env
      standAt apos.atName
      let (f, first) ← holding [ov] (getMethod ov m pl)
      callWith pos f first (backTo pos (starEach (e :: es) X.env)) (backToKw pos (keywordEach [] X.env))) := by rfl) :
    PE X (.Call (.Attribute o m apos) (e :: es) [] pos) (tMethX W C m sp te t) := by
  refine ⟨fun pins s σ H Q I h => ?_⟩
  refine PySem.W.methodCall_KW (pl := pl) (thn (he.run pins s σ H _ I h) fun u s1 ⟨x, H1, I1, rx, a, dx, fs, ex, ea, l, q⟩ => ?_) ht
  subst ex
  cases (show u = Value.ref a from rx)
  refine getmeth_ok I1 ea c hm l ?_
  refine PySem.W.callWith_K (first := [.ref a]) (h₀ := X.base) I1.ok.mod.kin hm.kp (thn (ha.run pos pins s1 σ H1 _ I1 q) fun us s3 ⟨vs, H2, I3, rv, q2⟩ => ⟨I3.kIn, ?_⟩) hst hpl
  exact wpAny_call (run_PX (us := .ref a :: us) (vs := .ref a :: vs) tk F hr hgd I3.env0 I3 (.cons rfl rv) q2)
theorem pe_methXK {a1 q : Str} {kws : List Keyword} {tkw : TA} (tk : Takes X W) (he : PE X o te) (c : Cls X.K C) (hm : Meth X.K C m f) (F : FnGX X.prog X.w X.K X.mg X.base k f fd [a1, q] sp) (b : Kw2 fd [a1, q]) (hr : Room k X.A) (hgd : X.A.guards = some [])
    (hkw : PK X kws tkw) (hall : (backToKw pos (keywordEach kws X.env)).all (·.1.isSome) = true := by rfl) (hks : (backToKw pos (keywordEach kws X.env)).filterMap (·.1) = [q] := by rfl)
    (hpl : ((backTo pos (starEach [] X.env)).any (·.1) || (backToKw pos (keywordEach kws X.env)).any (·.1.isNone)) = false := by rfl)
    (ht : eval (.Call (.Attribute o m apos) [] kws pos) X.env = (do
      let ov ← eval o X.env
      standAt apos.atName
      let (f, first) ← holding [ov] (getMethod ov m pl)
      callWith pos f first (backTo pos (starEach [] X.env)) (backToKw pos (keywordEach kws X.env))) := by rfl) :
    PE X (.Call (.Attribute o m apos) [] kws pos) (tMethX W C m sp te tkw) := by
  refine ⟨fun pins s σ H Q I h => ?_⟩
  refine PySem.W.methodCall_KW (pl := pl) (thn (he.run pins s σ H _ I h) fun u s1 ⟨x, H1, I1, rx, a, dx, fs, ex, ea, l, q⟩ => ?_) ht
  subst ex
  cases (show u = Value.ref a from rx)
  refine getmeth_ok I1 ea c hm l ?_
  refine PySem.W.callWith_KW0 (first := [.ref a]) (h₀ := X.base) I1.ok.mod.kin hm.kp hall ?_ hpl
  refine thn (hkw.run pos pins s1 σ H1 _ I1 q) fun ws s3 ⟨zs, H2, I3, rz, q2⟩ => ⟨I3.kIn, ?_⟩
  rw [hks]
  have hl : zs.length + 1 = 2 := F.len _ _ _ _ q2
  cases rz with
  | nil => cases hl
  | @cons z u zr ur h1 more =>
    cases more with
    | cons _ _ => simp at hl
    | nil =>
      have b1 : BindsTo s3 fd ⟨[.ref a], [(_, u)]⟩ ([_, _].zip [.ref a, u]) := .of_eq (b _ _ (.ref a) u rfl)
      exact wpAny_call (run_GX tk F hr hgd I3 (us := [.ref a, u]) (vs := [.ref a, z]) b1 (.cons rfl (.cons h1 .nil)) q2)
end
end Rx

set_option Elab.async false
set_option linter.all false
set_option maxRecDepth 100000
set_option maxHeartbeats 4000000
/-! ### an own object that is called, by place and by names; o[..]; C(k = .., ..); a def with one default -/
namespace Ow
open PySem L2 Lay Own PySem.Spec PyProof.Rows
/-- two arguments by their names, behind a first one: the second name stands first -/
def Kw3 (fd : FuncData) (ps : List Str) : Prop := ∀ s0 x y a u v, ps = [s0, x, y] → bindArgs fd ⟨[a], [(y, u), (x, v)]⟩ = pure [(s0, a), (x, v), (y, u)]
section
variable {X : Cx} {k : Nat} {f g C : Addr} {fd : FuncData} {ps : List Str} {sp : Sp} {fe e : Expr} {es : List Expr} {tf te : TE} {t tk : TA} {pos p1 : Pos} {x : Str} {kws : List Keyword}
/-- o(e, ..) -/
def tCallP (C : Addr) (sp : Sp) (tf : TE) (t : TA) : TE := fun σ H Q => tf σ H fun y H1 => ∃ a, y = .ref a ∧ t σ H1 fun vs H2 => (∃ dx fs, H2 a = some (.ins C dx fs)) ∧ sp (.ref a :: vs) H2 Q E0
theorem ins_at {pins : List (Addr × Obj)} {σ : L2.St} {H : Hp} {s : Shared} {a dx : Addr} {fs : List (Str × V)} (I : Inv X pins σ H s) (h : H a = some (.ins C dx fs)) : ∃ ox od, PySem.W.InstAt s.heap a ox C od ∧ ox.data = .plain := by
  obtain ⟨mA, O, _⟩ := ins_get I.hok h
  obtain ⟨od, J, _⟩ := O.look
  exact ⟨_, _, J, rfl⟩
theorem pe_callP (hf : PE X fe tf) (c : StX.CallO X.K C g) (F : FnP X.prog X.w X.K X.mg X.base k g sp) (hr : Room k X.A) (hgd : X.A.guards = some []) (ha : PA X (e :: es) t)
    (ht : eval (.Call fe (e :: es) [] pos) X.env = (do callWith pos (← eval fe X.env) [] (backTo pos (starEach (e :: es) X.env)) (backToKw pos (keywordEach [] X.env))) := by rfl)
    (he : starEach (e :: es) X.env = (false, eval e X.env) :: starEach es X.env := by rfl) (hpl : (backTo pos (starEach es X.env)).any (·.1) = false := by rfl) : PE X (.Call fe (e :: es) [] pos) (tCallP C sp tf t) := by
  refine ⟨fun pins s σ H Q I h => ?_⟩
  refine Call_ (thn (hf.run pins s σ H _ I h) fun u s1 ⟨y, H1, I1, ry, a, ey, q⟩ => ?_) ht
  subst ey
  obtain rfl : u = Value.ref a := ry
  refine StX.callO_with (thn (ha.run pos pins s1 σ H1 _ I1 q) fun us s2 ⟨vs, H2, I2, r, ⟨dx, fs, hi⟩, q2⟩ => ?_) he hpl
  obtain ⟨ox, od, J, hd⟩ := ins_at I2 hi
  exact ⟨⟨C, ox, od, J, hd⟩, wpAny_call (PySem.W.kco_code I2.kIn J hd c.at_ c.fn c.fi (run_P (us := .ref a :: us) (vs := .ref a :: vs) F hr hgd I2.env0 I2 (.cons rfl r) q2))⟩
/-- o(y = .., x = ..) -/
def tCallK (C : Addr) (sp : Sp) (tf : TE) (tk : TA) : TE := fun σ H Q => tf σ H fun y H1 => ∃ a, y = .ref a ∧ tk σ H1 fun zs H2 => ∃ u v, zs = [u, v] ∧ (∃ dx fs, H2 a = some (.ins C dx fs)) ∧ sp [.ref a, v, u] H2 Q E0
theorem pe_callK {s0 n1 n2 : Str} (hf : PE X fe tf) (c : StX.CallO X.K C g) (F : FnG X.prog X.w X.K X.mg X.base CX0 k g fd [s0, n1, n2] sp) (b : Kw3 fd [s0, n1, n2]) (hr : Room k X.A) (hgd : X.A.guards = some []) (hkw : PK X kws tk)
    (ht : eval (.Call fe [] kws pos) X.env = (do callWith pos (← eval fe X.env) [] (backTo pos (starEach [] X.env)) (backToKw pos (keywordEach kws X.env))) := by rfl)
    (hall : (backToKw pos (keywordEach kws X.env)).all (·.1.isSome) = true := by rfl) (hks : (backToKw pos (keywordEach kws X.env)).filterMap (·.1) = [n2, n1] := by rfl)
    (hpl : ((backTo pos (starEach [] X.env)).any (·.1) || (backToKw pos (keywordEach kws X.env)).any (·.1.isNone)) = false := by rfl) : PE X (.Call fe [] kws pos) (tCallK C sp tf tk) := by
  refine ⟨fun pins s σ H Q I h => ?_⟩
  rw [ht]
  refine wpAny_bind (thn (hf.run pins s σ H _ I h) fun u s1 ⟨y, H1, I1, ry, a, ey, q⟩ => ?_)
  subst ey
  obtain rfl : u = Value.ref a := ry
  unfold callWith
  refine wpAny_bind (wpAny_holding (wpAny_mono (evalArgs_kw2_nil hall (Q := fun z s3 => ∃ ox od, PySem.W.InstAt s3.heap a ox C od ∧ ox.data = .plain ∧ wpAny (model X.prog X.w) X.A (call (.ref a) ([] ++ z.pos) z.kw) (EP X pins σ Q) X.xe s3) (thn (hkw.run pos pins s1 σ H1 _ I1 q) fun ws s3 ⟨zs, H2, I3, rz, u1, v1, ez, ⟨dx, fs, hi⟩, q2⟩ => ?_)) (fun z s3 h3 => wpAny_bind (wpAny_standAt ?_)) fun _ _ y => y))
  · subst ez
    obtain ⟨ox, od, J, hd⟩ := ins_at I3 hi
    obtain ⟨w1, w2, rfl, r1, r2⟩ := vals2 rz
    refine ⟨ox, od, J, hd, ?_⟩
    rw [hks]
    have b1 : BindsTo s3 fd ⟨[.ref a], [(n2, w1), (n1, w2)]⟩ ([s0, n1, n2].zip [.ref a, w2, w1]) := .of_eq (b _ _ _ (.ref a) w1 w2 rfl)
    exact wpAny_call (PySem.W.kco_code I3.kIn J hd c.at_ c.fn c.fi (run_G F hr hgd I3 (us' := [.ref a, w2, w1]) (vs' := [.ref a, v1, u1]) b1 (.cons rfl (.cons r2 (.cons r1 .nil))) q2))
  · obtain ⟨ox, od, J, hd, h3⟩ := h3
    simp only [hpl]
    refine wpAny_bind ((PySem.W.kco_keeper (M := model X.prog X.w) J hd).here ?_)
    have tail : ∀ {m : Sem Value}, wpAny (model X.prog X.w) X.A m (EP X pins σ Q) X.xe s3 → wpAny (model X.prog X.w) X.A (m >>= fun r => holding [r] point >>= fun _ => pure r) (EP X pins σ Q) X.xe s3 :=
      fun hm => wpAny_bind (wpAny_mono hm (fun r s4 hr => wpAny_bind (wpAny_holding (wpAny_point (wpAny_pure hr)))) fun _ _ y => y)
    exact tail (wpAny_operateT h3)
/-- C(y = .., x = ..) -/
def tMakeK (C : Addr) (sp : Sp) (tk : TA) : TE := fun σ H Q => tk σ H fun zs H1 => ∃ u v, zs = [u, v] ∧ ∀ x dx, H1 x = Option.none → H1 dx = Option.none → dx ≠ x →
  sp [V.ref x, v, u] (upd (upd H1 dx (.own x)) x (.ins C dx [])) (fun v H2 => v = .non ∧ Q (.ref x) H2) E0
theorem pe_makeK {s0 n1 n2 : Str} (M : Mk X.K C f) (F : FnG X.prog X.w X.K X.mg X.base CX0 k f fd [s0, n1, n2] sp) (b : Kw3 fd [s0, n1, n2]) (hr : Room (k + 1) X.A) (hgd : X.A.guards = some []) (hm : X.mg x = some (.ref C)) (hkw : PK X kws tk) (hg : Gl X x := by rfl) (hdb : (x == ("__debug__" : Str)) = false := by decide)
    (hall : (backToKw pos (keywordEach kws X.env)).all (·.1.isSome) = true := by rfl) (hks : (backToKw pos (keywordEach kws X.env)).filterMap (·.1) = [n2, n1] := by rfl)
    (hpl : ((backTo pos (starEach [] X.env)).any (·.1) || (backToKw pos (keywordEach kws X.env)).any (·.1.isNone)) = false := by rfl) : PE X (.Call (.Name x p1) [] kws pos) (tMakeK C sp tk) := by
  refine ⟨fun pins s σ H Q I h => ?_⟩
  refine wpAny_Call_Name_kw (ld_glob I hg hm ?_ hdb)
  refine PySem.W.callWith_KW0 (h₀ := X.base) I.ok.mod.kin M.kp hall ?_ hpl
  refine thn (hkw.run pos pins s σ H _ I h) fun ws s2 ⟨zs, H2, I2, rz, u1, v1, ez, q2⟩ => ⟨I2.kIn, ?_⟩
  subst ez
  obtain ⟨w1, w2, rfl, r1, r2⟩ := vals2 rz
  rw [hks]
  have hq := q2 (s2.heap.objs.size + 1) s2.heap.objs.size (I2.hok.fresh (Nat.le_succ _)) (I2.hok.fresh (Nat.le_refl _)) (Nat.ne_of_lt (Nat.lt_succ_self _))
  have I3 := Inv.made (C := C) I2
  have b1 : BindsTo { s2 with heap := (s2.heap.push PySem.W.emptyDict).push (PySem.W.instObj C s2.heap.objs.size) } fd ⟨[.ref (s2.heap.objs.size + 1)], [(n2, w1), (n1, w2)]⟩ ([s0, n1, n2].zip [.ref (s2.heap.objs.size + 1), w2, w1]) := .of_eq (b _ _ _ _ w1 w2 rfl)
  refine wpAny_call (make_map (f := f) I2.kIn M.makes M.init (beq_iff_eq.mp M.fn) (codeAny_mono (F.run _ X.stack _ _ ⟨[.ref (s2.heap.objs.size + 1)], [(n2, w1), (n1, w2)]⟩ [.ref (s2.heap.objs.size + 1), w2, w1] [.ref (s2.heap.objs.size + 1), v1, u1] _ E0 (hr.make C [] _) (g_under hgd) (I3.env0.make C [] _) b1 (.cons rfl (.cons r2 (.cons r1 .nil))) hq) fun r s' hq' => ?_))
  cases r with
  | error e => exact False.elim hq'
  | ok fl =>
    cases fl with
    | ret u =>
      obtain ⟨v, H', I4, rv, ev, q3⟩ := I3.after hq'
      subst ev
      exact ⟨rv, ⟨V.ref (s2.heap.objs.size + 1), H', I4, rfl, q3⟩⟩
    | next => exact False.elim hq'
    | brk => exact False.elim hq'
    | cont => exact False.elim hq'
/-- o[e] -/
def tIxP (C : Addr) (sp : Sp) (tf te : TE) : TE := fun σ H Q => tf σ H fun y H1 => te σ H1 fun z H2 => ∃ a dx fs, y = .ref a ∧ H2 a = some (.ins C dx fs) ∧ sp [.ref a, z] H2 Q E0
theorem pe_ixP (hf : PE X fe tf) (he : PE X e te) (hs : PySem.W.findIn X.K (.ref C) "__getitem__" = some (some (.ref g))) (hfn : PySem.W.isFn X.K (.ref g) = true) (hfi : PySem.W.fnIn X.K g = true) (F : FnP X.prog X.w X.K X.mg X.base k g sp) (hr : Room (k + 1) X.A) (hgd : X.A.guards = some [])
    (hsl : ∀ x i, subscripted e true (.ref x) i = runValue (.builtin "lifetime.subscript" ⟨[.ref x, i], []⟩) := by intro _ _; with_unfolding_all rfl) : PE X (.Subscript fe e pos) (tIxP C sp tf te) := by
  refine ⟨fun pins s σ H Q I h => ?_⟩
  refine Subscript_ (binT hf he I (R := fun y z H2 => ∃ a dx fs, y = .ref a ∧ H2 a = some (.ins C dx fs) ∧ sp [.ref a, z] H2 Q E0) h fun v u s2 y z H2 I2 ry rz q => ?_)
  obtain ⟨a, dx, fs, rfl, hi, q2⟩ := q
  obtain rfl : v = Value.ref a := ry
  obtain ⟨ox, od, J, hd⟩ := ins_at I2 hi
  obtain ⟨m, hF⟩ := I2.fr
  exact PySem.W.sub_K hF I2.ok.mod.kin J hs hfi hfn (run_own (us := [.ref a, u]) (vs := [.ref a, z]) F hr.in1 (g_in1 hgd) I2.env0.in1 I2 (.cons rfl (.cons rz .nil)) q2) (hsl a u)
end
/-- a def with defaults, as fnG wants it -/
theorem okD {P : Program} {w : World} {K : PySem.W.Frag} {mg : Str → Option Value} {base : Heap} {x qual : Str} {st : Stmt} {dvs : List V} {f : Addr} {fd : FuncData} {N ps : List Str} {k : Nat} {sp : Sp}
    (F : FunD K x qual (defArgs st) (defBody st) (defScope st) dvs [] f fd) (S : FnScope N ps (defScope st)) (len : ∀ vs H Q E, sp vs H Q E → vs.length = ps.length)
    (hbody : ∀ (cdv : Value) (A : Around) (outer : List Env) (s : Shared) (H : Hp) (vs : List V) (Q : VK) (E : XK),
      Room k (A.deeper (envOfC qual (defScope st) s.heap.objs.size f cdv)) → A.guards = some [] → sp vs H Q E →
      ∃ t, PSs (cxOf CX0 P w K mg base N qual (defScope st) f cdv A outer s H E).nox (defBody st) t ∧ t { nx := fun _ H' => Q .non H', rt := Q } (start N vs) H) :
    FnG P w K mg base CX0 (k + 1) f fd ps sp := by
  obtain ⟨oc, od, dV, kV, doc, pm, an, cdv, ct, osl, rfl, lk, hcd, _, _⟩ := F.ex
  refine fnG_of lk hcd S len fun A outer s H vs Q E hr hg hsp => ?_
  obtain ⟨t, h, q⟩ := hbody cdv A outer s H vs Q E hr hg hsp
  exact ⟨t, h.nox, q⟩
section
variable {X : Cx} {k : Nat} {g C p0 : Addr} {mc : Value} {fd : FuncData} {ps : List Str} {sp : Sp} {o : Expr} {te : TE} {m : Str} {pos apos : Pos} {pl : Sem Bool}
/-- C.m(), m a static method of defaults alone -/
def tSta0 (C : Addr) (sp : Sp) (ds : List V) (te : TE) : TE := fun σ H Q => te σ H fun x H1 => x = .ref C ∧ sp ds H1 Q E0
theorem pe_sta0 {ds : List V} (he : PE X o te) (r : ClX.CRead X.K C mc) (c : CSta X.K C mc m p0 g) (F : FnG X.prog X.w X.K X.mg X.base CX0 k g fd ps sp) (b : ∃ us, Vals ds us ∧ Binds X.K fd ps us) (hr : Room k X.A) (hgd : X.A.guards = some [])
    (ht : eval (.Call (.Attribute o m apos) [] [] pos) X.env = (do
      let ov ← eval o X.env
      standAt apos.atName
      let (f, first) ← holding [ov] (getMethod ov m pl)
      callWith pos f first (backTo pos (starEach [] X.env)) (backToKw pos (keywordEach [] X.env))) := by rfl) :
    PE X (.Call (.Attribute o m apos) [] [] pos) (tSta0 C sp ds te) := by
  refine ⟨fun pins s σ H Q I h => ?_⟩
  refine PySem.W.methodCall_KW (pl := pl) (thn (he.run pins s σ H _ I h) fun u s1 ⟨x, H1, I1, rx, ex, q⟩ => ?_) ht
  subst ex
  obtain rfl : u = Value.ref C := rx
  refine getmethst_ok I1 r c fun s2 I2 => ?_
  obtain ⟨us, rv, bb⟩ := b
  have hl : ds.length = ps.length := F.len _ _ _ _ q
  have b1 := bb s2 [] I2.kIn (by rw [List.nil_append, ← rv.length]; exact hl)
  exact PySem.W.callWith_K0 (first := []) I2.kIn c.kp (wpAny_call (run_G F hr hgd I2 b1 rv q))
/-- the one argument by its name, of a def with defaults -/
def KwB (K : PySem.W.Frag) (fd : FuncData) (q : Str) : Prop := ∀ (s : Shared) (v : Value), K.In s.heap → BindsTo s fd ⟨[], [(q, v)]⟩ [(q, v)]
theorem kwB_of {K : PySem.W.Frag} {x qual : Str} {params : Arguments} {body : List Stmt} {scope : Scope} {dvs : List V} {f : Addr} {fd : FuncData} {q : Str} (F : FunD K x qual params body scope dvs [] f fd) (hd : dvs ≠ [])
    (h : ∀ (T : Addr) (kV doc pm : Value) (an : Option Addr) (cdv ct : Value) (v : Value) (its : List Value), its.length = dvs.length →
      ∃ k, bindArgs (PySem.W.fnOf x qual params body scope (.ref T) kV doc pm an cdv ct) ⟨[], [(q, v)]⟩ = seqItems? (.ref T) >>= k ∧ k (some its.toArray) = pure [(q, v)]) : KwB K fd q := by
  obtain ⟨oc, od, dV, kV, doc, pm, an, cdv, ct, osl, rfl, lk, hcd, hD, hK⟩ := F.ex
  rcases hD with ⟨e, _⟩ | ⟨_, T, o, its, m, rfl, lT, oT, rT⟩
  · exact absurd e hd
  · intro s v X
    obtain ⟨k, e1, e2⟩ := h T kV doc pm an cdv ct v its rT.length.symm
    refine BindsTo.of_looks fun M => ?_
    rw [e1]
    exact looks_items X lT oT (.of_pure e2)
theorem pe_staB {q : Str} {kws : List Keyword} {tk : TA} (he : PE X o te) (r : ClX.CRead X.K C mc) (c : CSta X.K C mc m p0 g) (F : FnG X.prog X.w X.K X.mg X.base CX0 k g fd [q] sp) (b : KwB X.K fd q) (hr : Room k X.A) (hgd : X.A.guards = some [])
    (hkw : PK X kws tk) (hall : (backToKw pos (keywordEach kws X.env)).all (·.1.isSome) = true := by rfl) (hks : (backToKw pos (keywordEach kws X.env)).filterMap (·.1) = [q] := by rfl)
    (hpl : ((backTo pos (starEach [] X.env)).any (·.1) || (backToKw pos (keywordEach kws X.env)).any (·.1.isNone)) = false := by rfl)
    (ht : eval (.Call (.Attribute o m apos) [] kws pos) X.env = (do
      let ov ← eval o X.env
      standAt apos.atName
      let (f, first) ← holding [ov] (getMethod ov m pl)
      callWith pos f first (backTo pos (starEach [] X.env)) (backToKw pos (keywordEach kws X.env))) := by rfl) :
    PE X (.Call (.Attribute o m apos) [] kws pos) (tStaP C sp te tk) := by
  refine ⟨fun pins s σ H Q I h => ?_⟩
  refine PySem.W.methodCall_KW (pl := pl) (thn (he.run pins s σ H _ I h) fun u s1 ⟨x, H1, I1, rx, ex, q⟩ => ?_) ht
  subst ex
  obtain rfl : u = Value.ref C := rx
  refine getmethst_ok I1 r c fun s2 I2 => ?_
  refine PySem.W.callWith_KW0 (h₀ := X.base) I2.ok.mod.kin c.kp hall ?_ hpl
  refine thn (hkw.run pos pins s2 σ H1 _ I2 q) fun ws s3 ⟨zs, H2, I3, rz, q2⟩ => ⟨I3.kIn, ?_⟩
  rw [hks]
  have hl : zs.length = 1 := F.len _ _ _ _ q2
  cases rz with
  | nil => cases hl
  | @cons z u zr ur h1 rest =>
    cases rest with
    | cons _ _ => cases hl
    | nil =>
      have b1 : BindsTo s3 fd ⟨[], [(_, u)]⟩ ([_].zip [u]) := b s3 u I3.kIn
      exact wpAny_call (run_G (us' := [u]) (vs' := [z]) F hr hgd I3 b1 (.cons h1 .nil) q2)
end
end Ow

set_option Elab.async false
set_option linter.all false
set_option maxRecDepth 100000
set_option maxHeartbeats 4000000
namespace Own
open PySem L2 Lay SrtO
theorem cut_from {xs : List V} {i : Nat} (h : i ≤ xs.length) : cutV xs (some (i : Int)) none = xs.drop i := by
  unfold cutV
  rw [HT.sIx_nat, HT.sIx_none, Nat.min_eq_left h]
  exact List.take_of_length_le (by rw [List.length_drop]; omega)
theorem cut_to {xs : List V} {i : Nat} (h : i ≤ xs.length) : cutV xs none (some (i : Int)) = xs.take i := by
  unfold cutV
  rw [HT.sIx_nat, HT.sIx_none, Nat.min_eq_left h]
  simp
section
variable {α : Type} {lt : α → α → Bool} {xs ys out : List α} {i j : Nat} {x y : α}
/-- what two sorted lists have put out -/
structure MI (lt : α → α → Bool) (xs ys : List α) (i j : Nat) (out : List α) : Prop where
  perm : out.Perm (xs.take i ++ ys.take j)
  sd : Sd lt out
  ax : ∀ z ∈ out, ∀ x ∈ xs.drop i, lt x z = false
  ay : ∀ z ∈ out, ∀ y ∈ ys.drop j, lt y z = false
theorem MI.start : MI lt xs ys 0 0 [] := ⟨by simp, List.Pairwise.nil, by simp, by simp⟩
theorem sd_drop (h : Sd lt xs) (e : xs[i]? = some x) : ∀ z ∈ xs.drop (i + 1), lt z x = false := by
  have hd : xs.drop i = x :: xs.drop (i + 1) := by
    have hi := (List.getElem?_eq_some_iff.mp e).1
    rw [List.drop_eq_getElem_cons hi]
    congr 1
    exact (List.getElem?_eq_some_iff.mp e).2
  have s : Sd lt (xs.drop i) := List.Pairwise.sublist (List.drop_sublist _ _) h
  rw [hd] at s
  exact (List.pairwise_cons.mp s).1
theorem drop_at (e : xs[i]? = some x) : xs.drop i = x :: xs.drop (i + 1) := by
  have hi := (List.getElem?_eq_some_iff.mp e).1
  rw [List.drop_eq_getElem_cons hi]
  congr 1
  exact (List.getElem?_eq_some_iff.mp e).2
theorem take_at (e : xs[i]? = some x) : xs.take (i + 1) = xs.take i ++ [x] := by rw [List.take_add_one, e]; rfl
theorem MI.b (O : Swo lt) (m : MI lt xs ys i j out) (hx : Sd lt xs) (hy : Sd lt ys) (ex : xs[i]? = some x) (ey : ys[j]? = some y) (h : lt y x = true) : MI lt xs ys i (j + 1) (out ++ [y]) := by
  have hd := drop_at ey
  refine ⟨?_, ?_, fun z hz x' hx' => ?_, fun z hz y' hy' => ?_⟩
  · rw [take_at ey, ← List.append_assoc]
    exact m.perm.append_right _
  · refine List.pairwise_append.mpr ⟨m.sd, List.pairwise_singleton _ _, fun a ha b hb => ?_⟩
    obtain rfl := List.mem_singleton.mp hb
    exact m.ay a ha b (by rw [hd]; exact List.mem_cons_self ..)
  · rcases List.mem_append.mp hz with q | q
    · exact m.ax z q x' hx'
    · obtain rfl := List.mem_singleton.mp q
      rw [drop_at ex] at hx'
      rcases List.mem_cons.mp hx' with r | r
      · subst r; exact O.asym _ _ h
      · exact O.tr z x x' (O.asym _ _ h) (sd_drop hx ex x' r)
  · rcases List.mem_append.mp hz with q | q
    · exact m.ay z q y' (by rw [hd]; exact List.mem_cons_of_mem _ hy')
    · obtain rfl := List.mem_singleton.mp q
      exact sd_drop hy ey y' hy'
theorem MI.a (O : Swo lt) (m : MI lt xs ys i j out) (hx : Sd lt xs) (hy : Sd lt ys) (ex : xs[i]? = some x) (ey : ys[j]? = some y) (h : lt y x = false) : MI lt xs ys (i + 1) j (out ++ [x]) := by
  have hd := drop_at ex
  refine ⟨?_, ?_, fun z hz x' hx' => ?_, fun z hz y' hy' => ?_⟩
  · rw [take_at ex]
    refine (m.perm.append_right _).trans ?_
    rw [List.append_assoc, List.append_assoc]
    exact List.Perm.append_left _ List.perm_append_comm
  · refine List.pairwise_append.mpr ⟨m.sd, List.pairwise_singleton _ _, fun a ha b hb => ?_⟩
    obtain rfl := List.mem_singleton.mp hb
    exact m.ax a ha b (by rw [hd]; exact List.mem_cons_self ..)
  · rcases List.mem_append.mp hz with q | q
    · exact m.ax z q x' (by rw [hd]; exact List.mem_cons_of_mem _ hx')
    · obtain rfl := List.mem_singleton.mp q
      exact sd_drop hx ex x' hx'
  · rcases List.mem_append.mp hz with q | q
    · exact m.ay z q y' hy'
    · obtain rfl := List.mem_singleton.mp q
      rw [drop_at ey] at hy'
      rcases List.mem_cons.mp hy' with r | r
      · subst r; exact h
      · exact O.tr z y y' h (sd_drop hy ey y' r)
theorem MI.fin (m : MI lt xs ys i j out) (hx : Sd lt xs) (hy : Sd lt ys) (h : xs.length ≤ i ∨ ys.length ≤ j) : (out ++ xs.drop i ++ ys.drop j).Perm (xs ++ ys) ∧ Sd lt (out ++ xs.drop i ++ ys.drop j) := by
  constructor
  · refine ((m.perm.append_right _).append_right _).trans ?_
    have e : ((xs.take i ++ ys.take j) ++ xs.drop i) ++ ys.drop j = xs.take i ++ ((ys.take j ++ xs.drop i) ++ ys.drop j) := by simp
    rw [e]
    refine (List.Perm.append_left _ (List.perm_append_comm.append_right _)).trans ?_
    have e2 : xs.take i ++ ((xs.drop i ++ ys.take j) ++ ys.drop j) = xs ++ ys := by
      rw [List.append_assoc, ← List.append_assoc, List.take_append_drop, List.take_append_drop]
    rw [e2]
  · have s1 : Sd lt (xs.drop i) := List.Pairwise.sublist (List.drop_sublist _ _) hx
    have s2 : Sd lt (ys.drop j) := List.Pairwise.sublist (List.drop_sublist _ _) hy
    rcases h with h | h
    · rw [List.drop_of_length_le h, List.append_nil]
      exact List.pairwise_append.mpr ⟨m.sd, s2, m.ay⟩
    · rw [List.drop_of_length_le h, List.append_nil]
      exact List.pairwise_append.mpr ⟨m.sd, s1, m.ax⟩
end
end Own

set_option Elab.async false
set_option linter.all false
set_option maxRecDepth 100000
set_option maxHeartbeats 4000000
namespace Own
open PySem L2 Lay
theorem pg_tupK {X : Cx} {es : List Expr} {k : Nat} {t : TGs} {n : Nat} {K : PySem.W.Frag} {pos : Pos} (hK : X.K = K) (hc : X.calm = true) (h : PGs X es t)
    (hn : (assignEach es X.env).length = n := by rfl) (hst : (assignEach es X.env).findIdx? (·.1) = none := by rfl) : PG X (.Tuple es k pos) (gTup K n t) := hK ▸ pg_tup hc h hn hst
/-- a comprehension whose elements stand on what it made, told by their places -/
theorem lc_depI {J : It} {n : Nat} {G : Hp → Prop} {Y : Nat → Hp → V → Hp → Prop} (wk : Walk J n G Y) {g : TG} {tt : TT} {te : TE} {vs : List Nat} {σ : L2.St} {H1 : Hp} {D : Addr} {Qd : Hp → Prop} (nD : H1 D = none) (hn : n < 100000)
    (hG : ∀ H, L2.Same H1 H → G H) (R : Nat → Hp → V → Prop) (rs : ∀ i H H' v, L2.Same H H' → R i H v → R i H' v) (rm : ∀ i H xs ys v, H D = some (.lst xs) → R i H v → R i (upd H D (.lst ys)) v)
    (hs : ∀ i x H H' (Kn : V → Hp → Prop) (Z : Hp → Prop), i < n → L2.Same H1 H → (∃ xs, H D = some (.lst xs)) → Y i H x H' → (∀ y H4, L2.Same H H4 → R i H4 y → Kn y H4) →
      g x (wipe σ vs) H' fun σ2 H2 => wipe σ2 vs = wipe σ vs ∧ tt σ2 H2 fun b H3 => if b = true then te σ2 H3 Kn else Z H3)
    (hd : ∀ H xs, L2.Same H1 H → H D = some (.lst xs) → xs.length = n → (∀ i y, xs[i]? = some y → R i H y) → Qd H) :
    ∃ W : Nat → Nat → Hp → Prop, (∃ m, W 0 m (upd H1 D (.lst []))) ∧ ∀ i m H, W i m H →
      (J.stop i H ∧ Qd H) ∨ (J.go i H ∧ ∃ Nx : Hp → Prop, (∀ H', Nx H' → ∃ m', m' < m ∧ W (i + 1) m' H') ∧ ∀ x H', J.yld i H x H' → g x (wipe σ vs) H' fun σ2 H2 => wipe σ2 vs = wipe σ vs ∧ tt σ2 H2 fun b H3 =>
        if b = true then te σ2 H3 fun y H4 => ∃ acc, H4 D = some (.lst acc) ∧ acc.length < sizeLine ∧ Nx (upd H4 D (.lst (acc ++ [y]))) else Nx H3) := by
  refine lc_it wk (fun i H => L2.Same H1 H ∧ ∃ xs, H D = some (.lst xs) ∧ xs.length = i ∧ ∀ j y, xs[j]? = some y → R j H y) ?_ ?_ ?_ ?_
  · exact ⟨Same.new nD, [], upd_same, rfl, fun j y e => by simp at e⟩
  · exact fun i H _ h => hG H h.1
  · intro i x H H' hi ⟨sm, xs, hD, hl, hr⟩ y
    refine hs i x H H' _ _ hi sm ⟨xs, hD⟩ y fun v H4 h4 hv => ⟨xs, h4 _ _ hD, by rw [hl]; exact Nat.lt_trans (Nat.lt_trans hi hn) (by decide), ?_⟩
    refine ⟨Same.mut (sm.trans h4) nD, xs ++ [v], upd_same, by simp [hl], fun j y e => ?_⟩
    by_cases hj : j < xs.length
    · rw [List.getElem?_append_left hj] at e
      exact rm j _ xs _ _ (h4 _ _ hD) (rs j _ _ _ h4 (hr j y e))
    · rw [List.getElem?_append_right (by omega)] at e
      have hj2 : j - xs.length = 0 := by
        cases hk : j - xs.length with
        | zero => rfl
        | succ m => rw [hk] at e; simp at e
      rw [hj2] at e
      simp at e
      subst e
      have : j = i := by omega
      subst this
      exact rm j _ xs _ _ (h4 _ _ hD) hv
  · intro H ⟨sm, xs, hD, hl, hr⟩
    exact hd H xs sm hD hl hr
theorem EntT.mut {H : Hp} {D : Addr} {xs ys : List V} {x : V} {e : Ent} (hD : H D = some (.lst xs)) (h : EntT H x e) : EntT (upd H D (.lst ys)) x e := by
  obtain ⟨t, rfl, h⟩ := h
  refine ⟨t, rfl, ?_⟩
  rw [upd_ne]
  · exact h
  · intro z
    subst z
    rw [hD] at h
    cases h
theorem EL.mut {H : Hp} {D : Addr} {xs ys zs : List V} {es : List Ent} (hD : H D = some (.lst xs)) (h : EL H zs es) : EL (upd H D (.lst ys)) zs es := by
  induction h with
  | nil => exact .nil
  | cons h _ ih => exact .cons (h.mut hD) ih
/-- a comprehension over entries that makes entries -/
theorem el_of {H : Hp} {xs : List V} {es : List Ent} {f : Ent → Ent} (hl : xs.length = es.length) (h : ∀ (i : Nat) (y : V), xs[i]? = some y → ∃ e, es[i]? = some e ∧ EntT H y (f e)) : EL H xs (es.map f) := by
  refine .of_at (by rw [List.length_map, hl]) fun i x e hx he => ?_
  obtain ⟨e', h1, h2⟩ := h i x hx
  rw [List.getElem?_map, h1] at he
  cases he
  exact h2
/-- a comprehension over entries that makes plain values -/
theorem vs_of {xs : List V} {es : List Ent} {f : Ent → V} (hl : xs.length = es.length) (h : ∀ (i : Nat) (y : V), xs[i]? = some y → ∃ e, es[i]? = some e ∧ y = f e) : xs = es.map f := by
  apply List.ext_getElem?
  intro i
  by_cases hi : i < xs.length
  · obtain ⟨e, h1, h2⟩ := h i _ (List.getElem?_eq_getElem hi)
    rw [List.getElem?_map, h1, List.getElem?_eq_getElem hi, h2]; rfl
  · rw [List.getElem?_eq_none (by omega), List.getElem?_eq_none (by simp; omega)]
theorem sd_short {α : Type} {lt : α → α → Bool} : ∀ {xs : List α}, xs.length ≤ 1 → Sd lt xs
  | [], _ => List.Pairwise.nil
  | [x], _ => List.pairwise_singleton _ _
  | _ :: _ :: l, h => by simp at h
theorem Swo.on {α β : Type} {lt : α → α → Bool} (T : Tot lt) (k : β → α) : SrtO.Swo fun x y => lt (k x) (k y) := ⟨fun x y => T.swo.asym _ _, fun x y z => T.swo.tr _ _ _⟩
end Own

set_option Elab.async false
set_option linter.all false
set_option maxRecDepth 100000
set_option maxHeartbeats 4000000
namespace Own
open PySem L2 Lay PySem.Spec PyProof.Rows
theorem pd_app {α β : Type} {F : α → β → Prop} {l1 : List α} {l2 : List β} {m1 : List α} {m2 : List β} (h : Paired F l1 l2) (g : Paired F m1 m2) : Paired F (l1 ++ m1) (l2 ++ m2) := by
  induction h with
  | nil => exact g
  | cons a _ ih => exact .cons a ih
theorem pd_at {α β : Type} {F : α → β → Prop} {l1 : List α} {l2 : List β} (h : Paired F l1 l2) : ∀ {i : Nat} {x : α}, l1[i]? = some x → ∃ y, l2[i]? = some y ∧ F x y := by
  induction h with
  | nil => intro i x e; simp at e
  | cons a _ ih =>
    intro i x e
    cases i with
    | zero => simp at e; subst e; exact ⟨_, rfl, a⟩
    | succ j => exact ih (by simpa using e)
/-- a comprehension with a test: f tells what becomes of each place -/
theorem lc_fil {α : Type} {J : It} {n : Nat} {G : Hp → Prop} {Y : Nat → Hp → V → Hp → Prop} (wk : Walk J n G Y) {g : TG} {tt : TT} {te : TE} {vs : List Nat} {σ : L2.St} {H1 : Hp} {D : Addr} {Qd : Hp → Prop} (nD : H1 D = none) (hn : n < 100000)
    (hG : ∀ H, L2.Same H1 H → G H) (f : Nat → Option α) (R : Hp → V → α → Prop) (rs : ∀ H H' v c, L2.Same H H' → R H v c → R H' v c) (rm : ∀ H xs ys v c, H D = some (.lst xs) → R H v c → R (upd H D (.lst ys)) v c)
    (hs : ∀ i x H H' (Kn : V → Hp → Prop) (Z : Hp → Prop), i < n → L2.Same H1 H → (∃ xs, H D = some (.lst xs)) → Y i H x H' → (∀ y c H4, f i = some c → L2.Same H H4 → R H4 y c → Kn y H4) → (f i = none → ∀ H4, L2.Same H H4 → Z H4) →
      g x (wipe σ vs) H' fun σ2 H2 => wipe σ2 vs = wipe σ vs ∧ tt σ2 H2 fun b H3 => if b = true then te σ2 H3 Kn else Z H3)
    (hd : ∀ H xs, L2.Same H1 H → H D = some (.lst xs) → Paired (R H) xs ((List.range n).filterMap f) → Qd H) :
    ∃ W : Nat → Nat → Hp → Prop, (∃ m, W 0 m (upd H1 D (.lst []))) ∧ ∀ i m H, W i m H →
      (J.stop i H ∧ Qd H) ∨ (J.go i H ∧ ∃ Nx : Hp → Prop, (∀ H', Nx H' → ∃ m', m' < m ∧ W (i + 1) m' H') ∧ ∀ x H', J.yld i H x H' → g x (wipe σ vs) H' fun σ2 H2 => wipe σ2 vs = wipe σ vs ∧ tt σ2 H2 fun b H3 =>
        if b = true then te σ2 H3 fun y H4 => ∃ acc, H4 D = some (.lst acc) ∧ acc.length < sizeLine ∧ Nx (upd H4 D (.lst (acc ++ [y]))) else Nx H3) := by
  refine lc_it wk (fun i H => L2.Same H1 H ∧ ∃ xs, H D = some (.lst xs) ∧ Paired (R H) xs ((List.range i).filterMap f)) ?_ ?_ ?_ ?_
  · exact ⟨Same.new nD, [], upd_same, .nil⟩
  · exact fun i H _ h => hG H h.1
  · intro i x H H' hi ⟨sm, xs, hD, hp⟩ y
    have hl := hp.length
    have hle : ((List.range i).filterMap f).length ≤ i := by
      have z := List.length_filterMap_le f (List.range i)
      rwa [List.length_range] at z
    refine hs i x H H' _ _ hi sm ⟨xs, hD⟩ y (fun v c H4 e h4 hv => ⟨xs, h4 _ _ hD, by rw [hl]; exact Nat.lt_of_le_of_lt hle (Nat.lt_trans (Nat.lt_trans hi hn) (by decide)), ?_⟩) (fun e H4 h4 => ?_)
    · refine ⟨Same.mut (sm.trans h4) nD, xs ++ [v], upd_same, ?_⟩
      rw [List.range_succ, List.filterMap_append, show List.filterMap f [i] = [c] by simp [e]]
      exact pd_app (L2.Paired.mapP hp fun a b z => rm _ _ _ _ _ (h4 _ _ hD) (rs _ _ _ _ h4 z)) (.cons (rm _ _ _ _ _ (h4 _ _ hD) hv) .nil)
    · refine ⟨sm.trans h4, xs, h4 _ _ hD, ?_⟩
      rw [List.range_succ, List.filterMap_append, show List.filterMap f [i] = [] by simp [e], List.append_nil]
      exact L2.Paired.mapP hp fun a b z => rs _ _ _ _ h4 z
  · intro H ⟨sm, xs, hD, hp⟩
    exact hd H xs sm hD hp
/-- what is kept of a list -/
theorem range_fil {α β : Type} (g : α → Option β) (l : List α) : (List.range l.length).filterMap (fun i => l[i]?.bind g) = l.filterMap g := by
  induction l with
  | nil => rfl
  | cons a t ih =>
    rw [List.length_cons, List.range_succ_eq_map, List.filterMap_cons, List.filterMap_map]
    have e : (fun i => (a :: t)[i]?.bind g) ∘ Nat.succ = fun i => t[i]?.bind g := by
      funext i
      simp
    rw [e, ih]
    cases hg : g a with
    | none => simp [hg]
    | some b => simp [hg]
section
variable {X : Cx} {C g : Addr} {k : Nat} {sp : Sp}
/-- o <= y, o >= y -/
def rCmpP (K : PySem.W.Frag) (C : Addr) (sp : Sp) : R2 := fun x y H Q => ∃ a dx fs t, x = .ref a ∧ H a = some (.ins C dx fs) ∧ TyX K H y t ∧ PySem.W.notFirst K C t = true ∧ sp [.ref a, y] H (asB Q) E0
theorem cmp_own {op : CmpOp} (hs : PySem.W.findIn X.K (.ref C) (cmpInfo op).2.1 = some (some (.ref g))) (hf : PySem.W.isFn X.K (.ref g) = true) (F : FnP X.prog X.w X.K X.mg X.base k g sp) (hr : Room k X.A) (hg : X.A.guards = some [])
    {pins : List (Addr × Obj)} {s : Shared} {σ : L2.St} {H : Hp} {x y : V} {v u : Value} {Q : VK} (I : Inv X pins σ H s) (rx : RelV x v) (ry : RelV y u) (h : rCmpP X.K C sp x y H Q) : wpAny (model X.prog X.w) X.A (richCompare op v u) (EP X pins σ Q) X.xe s := by
  obtain ⟨a, dx, fs, t, rfl, ha, ty, nf, q⟩ := h
  cases (show v = Value.ref a from rx)
  obtain ⟨mA, O, _⟩ := ins_get I.hok ha
  obtain ⟨od, J, _⟩ := O.look
  obtain ⟨m, hF⟩ := I.fr
  obtain ⟨Pz, Z, pz, _⟩ := kit_of I ry ty
  refine PySem.W.cmp_K (op := op) (tb := t) hr.units0 hF I.ok.mod.kin J (Z.ty _ _ I.kIn pz) nf hs hf (wpAny_mono (run_own (vs := [.ref a, y]) (us := [.ref a, u]) F hr hg I.env0 I (.cons rfl (.cons ry .nil)) q) (fun w s' z => ?_) fun _ _ e => e)
  obtain ⟨v', H', I', rv, b, rfl, q'⟩ := z
  cases (show w = Value.bool b from rv)
  exact ⟨.bl b, H', I', rfl, q'⟩
theorem op_leP (hs : PySem.W.findIn X.K (.ref C) "__le__" = some (some (.ref g))) (hf : PySem.W.isFn X.K (.ref g) = true) (F : FnP X.prog X.w X.K X.mg X.base k g sp) (hr : Room k X.A) (hg : X.A.guards = some []) : OpR X (compareOp .LtE) (rCmpP X.K C sp) := by
  intro pins s σ H x y v u Q I rx ry h
  exact cmp_own (op := .LtE) hs hf F hr hg I rx ry h
theorem op_geP (hs : PySem.W.findIn X.K (.ref C) "__ge__" = some (some (.ref g))) (hf : PySem.W.isFn X.K (.ref g) = true) (F : FnP X.prog X.w X.K X.mg X.base k g sp) (hr : Room k X.A) (hg : X.A.guards = some []) : OpR X (compareOp .GtE) (rCmpP X.K C sp) := by
  intro pins s σ H x y v u Q I rx ry h
  exact cmp_own (op := .GtE) hs hf F hr hg I rx ry h
end
end Own

set_option Elab.async false
set_option linter.all false
set_option maxRecDepth 100000
set_option maxHeartbeats 4000000
/-! ### own >> and << with a whole number at the right; >>= of a class that has none of its own -/
namespace Ow
open PySem L2 Lay Own PySem.Spec PyProof.Rows
/-- what stands of an own operator's name -/
structure BinC (K : PySem.W.Frag) (C g : Addr) (nm : String) : Prop where
  sf : PySem.W.selfFirst K C = true
  at_ : PySem.W.findIn K (.ref C) (PySem.dunder nm) = some (some (.ref g))
  fn : PySem.W.isFn K (.ref g) = true
  no : PySem.W.findIn K (.ref C) (dunderR nm) = some none
  il : ∃ fo, PySem.W.findIn K (.type "int") (PySem.dunder nm) = some fo
  ir : ∃ ro, PySem.W.findIn K (.type "int") (dunderR nm) = some ro
  sub : PySem.W.subIn K (.type "int") (.ref C) = some false
/-- in place: nothing of its own -/
structure NoInp (K : PySem.W.Frag) (C : Addr) (nm : String) : Prop where
  mro : ∃ cd, PySem.W.clsIn K C = some cd ∧ cd.mro = [.ref C, .type "object"]
  own : PySem.W.findIn K (.ref C) (dunderI nm) = some none
  obj : PySem.W.findIn K (.type "object") (dunderI nm) = some none
section
variable {prog : Program} {w : World} {A : Around} {E : Value → Shared → Prop} {s : Shared} {K : PySem.W.Frag} {a C g Lh : Addr} {h0 : Heap} {mf : Str → Option Value} {ob : Obj} {od : Option Obj} {nm : String}
theorem bin1 {i : Int} {t : Tok} {R : Option Value → Shared → Prop} (F : Fr h0 Lh s.heap mf) (X0 : K.In h0) (J : PySem.W.InstAt s.heap a ob C od) (B : BinC K C g nm)
    (h : wpAny (model prog w) A (call (.ref g) [.ref a, .int i t]) (PySem.W.CmpBack fun v s' => R (some v) s') E s) : wpAny (model prog w) A (binaryOp1 nm (.ref a) (.int i t)) R E s := by
  have X := X0.keeps F.keep
  obtain ⟨cd, more, hcd, hm⟩ := PySem.W.ksp_first B.sf
  obtain ⟨fo, il⟩ := B.il
  obtain ⟨ro, ir⟩ := B.ir
  have one := PySem.W.ksp_try X J B.at_ B.fn h
  obtain ⟨hh, gg, dd, tt, os⟩ := s
  have T1 : PySem.W.Looks (model prog w) hh (typeOf (.ref a)) (.ref C) := J.type
  have T2 : PySem.W.Looks (model prog w) hh (typeOf (.int i t)) (.type "int") := .of_pure rfl
  have S1 : PySem.W.Looks (model prog w) hh (fillsNumberSlot (.ref C) nm) true := PySem.W.fills_K X hcd hm B.at_
  have S2 := PySem.W.ksp_fillsT (M := model prog w) X il ir
  have S3 : PySem.W.Looks (model prog w) hh (isSubtype (.type "int") (.ref C)) false := PySem.W.looks_subIn X B.sub
  have S4 : PySem.W.Looks (model prog w) hh (numberSlotInPython (.ref C) nm) true := PySem.W.ksp_inPy X B.at_ B.no (.inl rfl)
  have S5 : PySem.W.Looks (model prog w) hh (numberSlotInPython (.type "int") nm) false := .of_pure rfl
  have S6 : PySem.W.Looks (model prog w) hh (typeLookup (.type "int") (dunderR nm)) ro := PySem.W.looks_findIn X ir
  generalize ((fo.isSome && !isSeqSlot fo) || (ro.isSome && !isSeqSlot ro)) = rt at S2
  have ne : (Value.ref C == Value.type "int") = false := Bool.eq_false_iff.mpr fun z => nomatch beq_iff_eq.mp z
  unfold binaryOp1
  refine wpAny_bind (T1.at (wpAny_bind (T2.at (wpAny_bind (S1.at ?_)))))
  simp only [ne, Bool.false_eq_true, if_false]
  cases rt <;>
  · repeat ((fail_if_success (with_reducible show wpAny _ _ (tryMethod _ _ _) _ _ _)); lk)
    refine wpAny_mono one (fun r s' z => ?_) fun _ _ e => e
    obtain ⟨v, rfl, hq⟩ := z
    repeat ((fail_if_success (with_reducible show wpAny _ _ (tryMethod _ _ _) _ _ _)); lk)
    exact hq
theorem bin_shr {i : Int} {t : Tok} {Q : Value → Shared → Prop} (F : Fr h0 Lh s.heap mf) (X0 : K.In h0) (J : PySem.W.InstAt s.heap a ob C od) (B : BinC K C g "rshift")
    (h : wpAny (model prog w) A (call (.ref g) [.ref a, .int i t]) (PySem.W.CmpBack Q) E s) : wpAny (model prog w) A (binaryOp .RShift (.ref a) (.int i t)) Q E s := by
  unfold binaryOp
  refine wpAny_holding (wpAny_bind (wpAny_mono (bin1 (R := fun r s' => ∃ v, r = some v ∧ Q v s') F X0 J B (wpAny_mono h (fun v s' z => ?_) fun _ _ e => e)) (fun r s' z => ?_) fun _ _ e => e))
  · cases v <;> first | exact z.elim | exact ⟨_, rfl, z⟩
  · obtain ⟨v, rfl, z⟩ := z
    exact wpAny_pure z
theorem bin_shl {i : Int} {t : Tok} {Q : Value → Shared → Prop} (F : Fr h0 Lh s.heap mf) (X0 : K.In h0) (J : PySem.W.InstAt s.heap a ob C od) (B : BinC K C g "lshift")
    (h : wpAny (model prog w) A (call (.ref g) [.ref a, .int i t]) (PySem.W.CmpBack Q) E s) : wpAny (model prog w) A (binaryOp .LShift (.ref a) (.int i t)) Q E s := by
  unfold binaryOp
  refine wpAny_holding (wpAny_bind (wpAny_mono (bin1 (R := fun r s' => ∃ v, r = some v ∧ Q v s') F X0 J B (wpAny_mono h (fun v s' z => ?_) fun _ _ e => e)) (fun r s' z => ?_) fun _ _ e => e))
  · cases v <;> first | exact z.elim | exact ⟨_, rfl, z⟩
  · obtain ⟨v, rfl, z⟩ := z
    exact wpAny_pure z
theorem noinp {h : Heap} {M : Model} {add : Bool} (X : K.In h) (N : NoInp K C nm) : PySem.W.Looks M h (fillsInplaceSlot (.ref C) nm add) false := by
  intro A Q E s k q
  obtain ⟨cd, hcd, hm⟩ := N.mro
  have Lm : PySem.W.Looks M h (mroOf (.ref C)) cd.mro := (PySem.W.looks_clsIn X hcd).andThen (f := fun cd => pure cd.mro) .now
  have Lm2 := Lm.keeps k
  obtain ⟨hh, gg, dd, tt, os⟩ := s
  have X2 : K.In hh := X.keeps k
  have L1 : PySem.W.Looks M hh (typeLookup (.ref C) (dunderI nm)) none := PySem.W.looks_findIn X2 N.own
  have L2 : PySem.W.Looks M hh (typeLookup (.type "object") (dunderI nm)) none := PySem.W.looks_findIn X2 N.obj
  unfold fillsInplaceSlot
  refine wpAny_bind (Lm2.at ?_)
  rw [hm, List.anyM_cons]
  refine wpAny_bind ?_
  repeat lk
  exact q
theorem inp_shr {i : Int} {t : Tok} {Q : Value → Shared → Prop} (F : Fr h0 Lh s.heap mf) (X0 : K.In h0) (J : PySem.W.InstAt s.heap a ob C od) (B : BinC K C g "rshift") (N : NoInp K C "rshift")
    (h : wpAny (model prog w) A (call (.ref g) [.ref a, .int i t]) (PySem.W.CmpBack Q) E s) : wpAny (model prog w) A (inplaceOp .RShift (.ref a) (.int i t)) Q E s := by
  have N1 : PySem.W.Looks (model prog w) s.heap (fillsInplaceSlot (.ref C) "rshift" false) false := noinp (X0.keeps F.keep) N
  unfold inplaceOp
  refine wpAny_holding (wpAny_bind (J.type.here ?_))
  refine wpAny_bind (N1.here ?_)
  refine wpAny_bind (wpAny_mono (bin1 (R := fun r s' => ∃ v, r = some v ∧ Q v s') F X0 J B (wpAny_mono h (fun v s' z => ?_) fun _ _ e => e)) (fun r s' z => ?_) fun _ _ e => e)
  · cases v <;> first | exact z.elim | exact ⟨_, rfl, z⟩
  · obtain ⟨v, rfl, z⟩ := z
    exact wpAny_pure z
end
section
variable {X : Cx} {C g : Addr} {k : Nat} {sp : Sp}
/-- o >> i: what is told is an object -/
def rBinI (C : Addr) (sp : Sp) : R2 := fun x y H Q => ∃ a dx fs i, x = .ref a ∧ y = .int i ∧ H a = some (.ins C dx fs) ∧ sp [.ref a, .int i] H (fun v H2 => (∃ b, v = .ref b) ∧ Q v H2) E0
theorem binI_use (F : FnP X.prog X.w X.K X.mg X.base k g sp) (hr : Room k X.A) (hgd : X.A.guards = some []) {pins : List (Addr × Obj)} {s : Shared} {σ : L2.St} {H : Hp} {a : Addr} {i : Int} {t : Tok} {Q : VK} (I : Inv X pins σ H s)
    (q : sp [.ref a, .int i] H (fun v H2 => (∃ b, v = .ref b) ∧ Q v H2) E0) : wpAny (model X.prog X.w) X.A (call (.ref g) [.ref a, .int i t]) (PySem.W.CmpBack (EP X pins σ Q)) X.xe s := by
  refine wpAny_mono (run_own (vs := [.ref a, .int i]) (us := [.ref a, .int i t]) F hr hgd I.env0 I (.cons rfl (.cons ⟨t, rfl⟩ .nil)) q) (fun u s' z => ?_) fun _ _ e => e
  obtain ⟨v, H2, I2, rv, ⟨b, rfl⟩, q2⟩ := z
  cases (show u = Value.ref b from rv)
  exact ⟨.ref b, H2, I2, rfl, q2⟩
theorem op_shrP (B : BinC X.K C g "rshift") (F : FnP X.prog X.w X.K X.mg X.base k g sp) (hr : Room k X.A) (hgd : X.A.guards = some []) : OpR X (binaryOp .RShift) (rBinI C sp) := by
  intro pins s σ H x y v u Q I rx ry h
  obtain ⟨a, dx, fs, i, rfl, rfl, ha, q⟩ := h
  cases (show v = Value.ref a from rx)
  obtain ⟨t, rfl⟩ := ry
  obtain ⟨ob, od, J, _⟩ := ins_at I ha
  obtain ⟨m, hF⟩ := I.fr
  exact bin_shr hF I.ok.mod.kin J B (binI_use F hr hgd I q)
theorem op_shlP (B : BinC X.K C g "lshift") (F : FnP X.prog X.w X.K X.mg X.base k g sp) (hr : Room k X.A) (hgd : X.A.guards = some []) : OpR X (binaryOp .LShift) (rBinI C sp) := by
  intro pins s σ H x y v u Q I rx ry h
  obtain ⟨a, dx, fs, i, rfl, rfl, ha, q⟩ := h
  cases (show v = Value.ref a from rx)
  obtain ⟨t, rfl⟩ := ry
  obtain ⟨ob, od, J, _⟩ := ins_at I ha
  obtain ⟨m, hF⟩ := I.fr
  exact bin_shl hF I.ok.mod.kin J B (binI_use F hr hgd I q)
theorem iop_shrP (B : BinC X.K C g "rshift") (N : NoInp X.K C "rshift") (F : FnP X.prog X.w X.K X.mg X.base k g sp) (hr : Room k X.A) (hgd : X.A.guards = some []) : OpR X (inplaceOp .RShift) (rBinI C sp) := by
  intro pins s σ H x y v u Q I rx ry h
  obtain ⟨a, dx, fs, i, rfl, rfl, ha, q⟩ := h
  cases (show v = Value.ref a from rx)
  obtain ⟨t, rfl⟩ := ry
  obtain ⟨ob, od, J, _⟩ := ins_at I ha
  obtain ⟨m, hF⟩ := I.fr
  exact inp_shr hF I.ok.mod.kin J B N (binI_use F hr hgd I q)
end
end Ow

set_option Elab.async false
set_option linter.all false
set_option maxRecDepth 100000
set_option maxHeartbeats 4000000
/-- addresses: the class, a static method's def -/
def kp (K : PySem.W.Frag) : PySem.Addr := He.ga K "Plan"
namespace Pl
open PySem
def rc (K : PySem.W.Frag) (m kind : String) : Addr := match PySem.W.recIn K (He.ma K (kp K) m) kind with
  | some (.ref g :: _) => g
  | _ => 0
def st (K : PySem.W.Frag) (m : String) : Addr := rc K m "staticmethod"
def pr (K : PySem.W.Frag) (m : String) : Addr := rc K m "property"
end Pl
namespace K63
open PySem L2 Lay Own
def top (i : Nat) : Stmt := PySem.Challenge.pw_twoeach_k63_whole_reduced_and_same.main.body.getD i (.Pass ⟨0, 0, 0, 0⟩)
def inClass (s : Stmt) (j : Nat) : Stmt := match s with
  | .ClassDef _ _ _ b _ _ _ _ _ _ _ => b.getD j (.Pass ⟨0, 0, 0, 0⟩)
  | _ => .Pass ⟨0, 0, 0, 0⟩
abbrev s_is_integer : Stmt := top 3
theorem sc_is_integer : FnScope ["value"] ["value"] (defScope s_is_integer) := ⟨rfl, rfl, rfl, by decide +kernel, rfl, by decide +kernel, by decide +kernel⟩
abbrev s_is_count : Stmt := top 4
theorem sc_is_count : FnScope ["value"] ["value"] (defScope s_is_count) := ⟨rfl, rfl, rfl, by decide +kernel, rfl, by decide +kernel, by decide +kernel⟩
abbrev s_is_name : Stmt := top 5
theorem sc_is_name : FnScope ["value"] ["value"] (defScope s_is_name) := ⟨rfl, rfl, rfl, by decide +kernel, rfl, by decide +kernel, by decide +kernel⟩
abbrev s_is_period : Stmt := top 17
theorem sc_is_period : FnScope ["value"] ["value"] (defScope s_is_period) := ⟨rfl, rfl, rfl, by decide +kernel, rfl, by decide +kernel, by decide +kernel⟩
abbrev s_is_remainder : Stmt := top 18
theorem sc_is_remainder : FnScope ["value", "period"] ["value", "period"] (defScope s_is_remainder) := ⟨rfl, rfl, rfl, by decide +kernel, rfl, by decide +kernel, by decide +kernel⟩
abbrev s_is_partner : Stmt := top 19
theorem sc_is_partner : FnScope ["value"] ["value"] (defScope s_is_partner) := ⟨rfl, rfl, rfl, by decide +kernel, rfl, by decide +kernel, by decide +kernel⟩
abbrev s_leads_back : Stmt := top 20
theorem sc_leads_back : FnScope ["period", "partners", "at", "remainder", "name", "difference", "other", "back"] ["period", "partners", "at"] (defScope s_leads_back) := ⟨rfl, rfl, rfl, by decide +kernel, rfl, by decide +kernel, by decide +kernel⟩
abbrev s_is_partners : Stmt := top 21
theorem sc_is_partners : FnScope ["period", "value", "at", "partner"] ["period", "value"] (defScope s_is_partners) := ⟨rfl, rfl, rfl, by decide +kernel, rfl, by decide +kernel, by decide +kernel⟩
abbrev s_in_sequence : Stmt := top 22
theorem sc_in_sequence : FnScope ["partners", "written", "remainder", "name", "text"] ["partners"] (defScope s_in_sequence) := ⟨rfl, rfl, rfl, by decide +kernel, rfl, by decide +kernel, by decide +kernel⟩
abbrev s_check_column : Stmt := top 14
theorem sc_check_column : FnScope ["value"] ["value"] (defScope s_check_column) := ⟨rfl, rfl, rfl, by decide +kernel, rfl, by decide +kernel, by decide +kernel⟩
abbrev s_comes_again : Stmt := top 23
theorem sc_comes_again : FnScope ["partners", "period", "step", "remainder", "name", "partner"] ["partners", "period", "step"] (defScope s_comes_again) := ⟨rfl, rfl, rfl, by decide +kernel, rfl, by decide +kernel, by decide +kernel⟩
abbrev s_least_step : Stmt := top 24
theorem sc_least_step : FnScope ["partners", "period", "step"] ["partners", "period"] (defScope s_least_step) := ⟨rfl, rfl, rfl, by decide +kernel, rfl, by decide +kernel, by decide +kernel⟩
abbrev s_l_pot : Stmt := top 28
theorem sc_l_pot : FnScope ["_law_script", "_law_k", "_law_cell"] ["_law_script", "_law_k"] (defScope s_l_pot) := ⟨rfl, rfl, rfl, by decide +kernel, rfl, by decide +kernel, by decide +kernel⟩
abbrev s_l_draw : Stmt := top 29
theorem sc_l_draw : FnScope ["_law_pot_here", "_law_lot", "_law_digit"] ["_law_pot_here", "_law_lot"] (defScope s_l_draw) := ⟨rfl, rfl, rfl, by decide +kernel, rfl, by decide +kernel, by decide +kernel⟩
abbrev s_l_pick : Stmt := top 30
theorem sc_l_pick : FnScope ["_law_pot_here", "_law_some"] ["_law_pot_here", "_law_some"] (defScope s_l_pick) := ⟨rfl, rfl, rfl, by decide +kernel, rfl, by decide +kernel, by decide +kernel⟩
abbrev s_l_named : Stmt := top 31
theorem sc_l_named : FnScope ["_law_pot_here", "_law_lot", "_law_signs", "_law_found", "_law_turn", "_law_label", "_law_spare", "_law_more", "_law_sign", "_law_near"] ["_law_pot_here", "_law_lot"] (defScope s_l_named) := ⟨rfl, rfl, rfl, by decide +kernel, rfl, by decide +kernel, by decide +kernel⟩
abbrev s_l_mates : Stmt := top 32
theorem sc_l_mates : FnScope ["_law_pot_here", "_law_labels", "_law_span", "_law_lot", "_law_mates_here", "_law_turn", "_law_at", "_law_label", "_law_gap", "_law_mate_here", "_law_later"] ["_law_pot_here", "_law_labels", "_law_span", "_law_lot"] (defScope s_l_mates) := ⟨rfl, rfl, rfl, by decide +kernel, rfl, by decide +kernel, by decide +kernel⟩
abbrev s_l_mate : Stmt := top 33
theorem sc_l_mate : FnScope ["_law_span", "_law_mates_here", "_law_at", "_law_label", "_law_entry"] ["_law_span", "_law_mates_here", "_law_at", "_law_label"] (defScope s_l_mate) := ⟨rfl, rfl, rfl, by decide +kernel, rfl, by decide +kernel, by decide +kernel⟩
abbrev s_l_longer : Stmt := top 34
theorem sc_l_longer : FnScope ["_law_span", "_law_mates_here", "_law_lot", "_law_found", "_law_at", "_law_label", "_law_turn"] ["_law_span", "_law_mates_here", "_law_lot"] (defScope s_l_longer) := ⟨rfl, rfl, rfl, by decide +kernel, rfl, by decide +kernel, by decide +kernel⟩
abbrev s_l_comes_again : Stmt := top 35
theorem sc_l_comes_again : FnScope ["_law_span", "_law_mates_here", "_law_by", "_law_at", "_law_label"] ["_law_span", "_law_mates_here", "_law_by"] (defScope s_l_comes_again) := ⟨rfl, rfl, rfl, by decide +kernel, rfl, by decide +kernel, by decide +kernel⟩
abbrev s_l_least : Stmt := top 36
theorem sc_l_least : FnScope ["_law_span", "_law_mates_here", "_law_by"] ["_law_span", "_law_mates_here"] (defScope s_l_least) := ⟨rfl, rfl, rfl, by decide +kernel, rfl, by decide +kernel, by decide +kernel⟩
abbrev s_l_common : Stmt := top 37
theorem sc_l_common : FnScope ["_law_one", "_law_far", "_law_big", "_law_low"] ["_law_one", "_law_far"] (defScope s_l_common) := ⟨rfl, rfl, rfl, by decide +kernel, rfl, by decide +kernel, by decide +kernel⟩
abbrev s_l_are_same : Stmt := top 38
theorem sc_l_are_same : FnScope ["_law_one", "_law_mate_here", "_law_labels", "_law_at", "_law_label"] ["_law_one", "_law_mate_here", "_law_labels"] (defScope s_l_are_same) := ⟨rfl, rfl, rfl, by decide +kernel, rfl, by decide +kernel, by decide +kernel⟩
abbrev s_l_less : Stmt := top 39
theorem sc_l_less : FnScope ["_law_pot_here", "_law_span", "_law_mates_here", "_law_spot", "_law_gap", "_law_label", "_law_pair", "_law_near"] ["_law_pot_here", "_law_span", "_law_mates_here"] (defScope s_l_less) := ⟨rfl, rfl, rfl, by decide +kernel, rfl, by decide +kernel, by decide +kernel⟩
abbrev s_l_turned : Stmt := top 40
theorem sc_l_turned : FnScope ["_law_span", "_law_mates_here", "_law_by", "_law_at", "_law_label"] ["_law_span", "_law_mates_here", "_law_by"] (defScope s_l_turned) := ⟨rfl, rfl, rfl, by decide +kernel, rfl, by decide +kernel, by decide +kernel⟩
abbrev s_l_others : Stmt := top 41
theorem sc_l_others : FnScope ["_law_pot_here", "_law_span", "_law_mates_here", "_law_labels", "_law_fresh", "_law_found", "_law_far", "_law_wide_mates"] ["_law_pot_here", "_law_span", "_law_mates_here", "_law_labels"] (defScope s_l_others) := ⟨rfl, rfl, rfl, by decide +kernel, rfl, by decide +kernel, by decide +kernel⟩
abbrev s_l_reduced_right : Stmt := top 42
theorem sc_l_reduced_right : FnScope ["_law_made", "_law_span", "_law_mates_here", "_law_labels", "_law_near", "_law_at", "_law_label", "_law_spot"] ["_law_made", "_law_span", "_law_mates_here", "_law_labels"] (defScope s_l_reduced_right) := ⟨rfl, rfl, rfl, by decide +kernel, rfl, by decide +kernel, by decide +kernel⟩
abbrev s_l_right : Stmt := top 43
theorem sc_l_right : FnScope ["_law_pot_here", "_law_labels", "_law_base", "_law_span", "_law_mates_here", "_law_made", "_law_shown", "_law_far", "_law_table", "_law_near", "_law_due"] ["_law_pot_here"] (defScope s_l_right) := ⟨rfl, rfl, rfl, by decide +kernel, rfl, by decide +kernel, by decide +kernel⟩
abbrev s_law : Stmt := top 44
theorem sc_law : FnScope ["_law_script", "_law_k"] ["_law_script"] (defScope s_law) := ⟨rfl, rfl, rfl, by decide +kernel, rfl, by decide +kernel, by decide +kernel⟩
abbrev s_Plan_period : Stmt := inClass (top 26) 3
theorem sc_Plan_period : FnScope ["self"] ["self"] (defScope s_Plan_period) := ⟨rfl, rfl, rfl, by decide +kernel, rfl, by decide +kernel, by decide +kernel⟩
abbrev s_Plan_partners : Stmt := inClass (top 26) 4
theorem sc_Plan_partners : FnScope ["self", "at"] ["self"] (defScope s_Plan_partners) := ⟨rfl, rfl, rfl, by decide +kernel, rfl, by decide +kernel, by decide +kernel⟩
abbrev s_Plan_is_same : Stmt := inClass (top 26) 5
theorem sc_Plan_is_same : FnScope ["self", "other"] ["self", "other"] (defScope s_Plan_is_same) := ⟨rfl, rfl, rfl, by decide +kernel, rfl, by decide +kernel, by decide +kernel⟩
abbrev s_Plan_reduced : Stmt := inClass (top 26) 6
theorem sc_Plan_reduced : FnScope ["self", "step", "at"] ["self"] (defScope s_Plan_reduced) := ⟨rfl, rfl, rfl, by decide +kernel, rfl, by decide +kernel, by decide +kernel⟩
abbrev s_Plan___call : Stmt := inClass (top 26) 14
theorem sc_Plan___call : FnScope ["self", "x", "name", "partner"] ["self", "x", "name"] (defScope s_Plan___call) := ⟨rfl, rfl, rfl, by decide +kernel, rfl, by decide +kernel, by decide +kernel⟩
abbrev s_Plan___eq : Stmt := inClass (top 26) 19
theorem sc_Plan___eq : FnScope ["self", "other"] ["self", "other"] (defScope s_Plan___eq) := ⟨rfl, rfl, rfl, by decide +kernel, rfl, by decide +kernel, by decide +kernel⟩
abbrev s_Plan___repr : Stmt := inClass (top 26) 20
theorem sc_Plan___repr : FnScope ["self"] ["self"] (defScope s_Plan___repr) := ⟨rfl, rfl, rfl, by decide +kernel, rfl, by decide +kernel, by decide +kernel⟩
abbrev s_Plan___init : Stmt := inClass (top 26) 1
theorem sc_Plan___init : FnScope ["self", "period", "partners"] ["self", "period", "partners"] (defScope s_Plan___init) := ⟨rfl, rfl, rfl, by decide +kernel, rfl, by decide +kernel, by decide +kernel⟩
abbrev s_Made___init : Stmt := inClass (top 25) 0
theorem sc_Made___init : FnScope ["self", "rows"] ["self", "rows"] (defScope s_Made___init) := ⟨rfl, rfl, rfl, by decide +kernel, rfl, by decide +kernel, by decide +kernel⟩
/-- a method of the class -/
def Ms (K : PySem.W.Frag) (m qual : Str) (s : Stmt) (f : Addr) (ps : List Str) : Prop := ∃ fd, Fun K m qual s f fd ∧ Binds K fd ps [] ∧ Kw1 fd ps ∧ Rx.Kw2 fd ps ∧ Ow.Kw3 fd ps
def Ty7 : List String := ["NoneType", "bool", "int", "str", "list", "tuple", "dict"]
structure Txt (K : PySem.W.Frag) (mg : Str → Option Value) : Prop where
  n_len : mg "len" = none
  n_int : mg "int" = none
  n_abs : mg "abs" = none
  n_max : mg "max" = none
  n_min : mg "min" = none
  n_divmod : mg "divmod" = none
  n_isinstance : mg "isinstance" = none
  n_bool : mg "bool" = none
  n_str : mg "str" = none
  n_repr : mg "repr" = none
  n_range : mg "range" = none
  n_all : mg "all" = none
  n_any : mg "any" = none
  n_tuple : mg "tuple" = none
  n_list : mg "list" = none
  n_sorted : mg "sorted" = none
  n_dict : mg "dict" = none
  n_enumerate : mg "enumerate" = none
  n_ValueError : mg "ValueError" = none
  n_LookupError : mg "LookupError" = none
  c_MOST_LETTERS : ∃ u, mg "MOST_LETTERS" = some u ∧ RelV (.int 8) u
  c_FARTHEST : ∃ u, mg "FARTHEST" = some u ∧ RelV (.int 60) u
  S_is_integer : Src K mg "is_integer" s_is_integer ["value"]
  S_is_count : Src K mg "is_count" s_is_count ["value"]
  S_is_name : Src K mg "is_name" s_is_name ["value"]
  S_is_period : Src K mg "is_period" s_is_period ["value"]
  S_is_remainder : Src K mg "is_remainder" s_is_remainder ["value", "period"]
  S_is_partner : Src K mg "is_partner" s_is_partner ["value"]
  S_leads_back : Src K mg "leads_back" s_leads_back ["period", "partners", "at"]
  S_is_partners : Src K mg "is_partners" s_is_partners ["period", "value"]
  S_in_sequence : Src K mg "in_sequence" s_in_sequence ["partners"]
  S_check_column : Src K mg "check_column" s_check_column ["value"]
  S_comes_again : Src K mg "comes_again" s_comes_again ["partners", "period", "step"]
  S_least_step : Src K mg "least_step" s_least_step ["partners", "period"]
  S_l_pot : Src K mg "_law_pot" s_l_pot ["_law_script", "_law_k"]
  S_l_draw : Src K mg "_law_draw" s_l_draw ["_law_pot_here", "_law_lot"]
  S_l_pick : Src K mg "_law_pick" s_l_pick ["_law_pot_here", "_law_some"]
  S_l_named : Src K mg "_law_named" s_l_named ["_law_pot_here", "_law_lot"]
  S_l_mates : Src K mg "_law_mates" s_l_mates ["_law_pot_here", "_law_labels", "_law_span", "_law_lot"]
  S_l_mate : Src K mg "_law_mate" s_l_mate ["_law_span", "_law_mates_here", "_law_at", "_law_label"]
  S_l_longer : Src K mg "_law_longer" s_l_longer ["_law_span", "_law_mates_here", "_law_lot"]
  S_l_comes_again : Src K mg "_law_comes_again" s_l_comes_again ["_law_span", "_law_mates_here", "_law_by"]
  S_l_least : Src K mg "_law_least" s_l_least ["_law_span", "_law_mates_here"]
  S_l_common : Src K mg "_law_common" s_l_common ["_law_one", "_law_far"]
  S_l_are_same : Src K mg "_law_are_same" s_l_are_same ["_law_one", "_law_mate_here", "_law_labels"]
  S_l_less : Src K mg "_law_less" s_l_less ["_law_pot_here", "_law_span", "_law_mates_here"]
  S_l_turned : Src K mg "_law_turned" s_l_turned ["_law_span", "_law_mates_here", "_law_by"]
  S_l_others : Src K mg "_law_others" s_l_others ["_law_pot_here", "_law_span", "_law_mates_here", "_law_labels"]
  S_l_reduced_right : Src K mg "_law_reduced_right" s_l_reduced_right ["_law_made", "_law_span", "_law_mates_here", "_law_labels"]
  S_l_right : Src K mg "_law_right" s_l_right ["_law_pot_here"]
  S_law : Src K mg "law" s_law ["_law_script"]
  g_Plan : mg "Plan" = some (.ref (kp K))
  g_Made : mg "Made" = some (.ref (He.ga K "Made"))
  cls : Cls K (kp K)
  maker : Mk K (kp K) (He.ma K (kp K) "__init__")
  cr : ∃ mc, ClX.CRead K (kp K) mc ∧ (∃ u, ClX.CVal K (kp K) mc "MOST_PERIOD" (.int 500) u)
  m_partners : Meth K (kp K) "partners" (He.ma K (kp K) "partners")
  m_is_same : Meth K (kp K) "is_same" (He.ma K (kp K) "is_same")
  m_reduced : Meth K (kp K) "reduced" (He.ma K (kp K) "reduced")
  f___call__ : PySem.W.findIn K (.ref (kp K)) "__call__" = some (some (.ref (He.ma K (kp K) "__call__")))
  i___call__ : PySem.W.isFn K (.ref (He.ma K (kp K) "__call__")) = true
  f___eq__ : PySem.W.findIn K (.ref (kp K)) "__eq__" = some (some (.ref (He.ma K (kp K) "__eq__")))
  i___eq__ : PySem.W.isFn K (.ref (He.ma K (kp K) "__eq__")) = true
  f___repr__ : PySem.W.findIn K (.ref (kp K)) "__repr__" = some (some (.ref (He.ma K (kp K) "__repr__")))
  i___repr__ : PySem.W.isFn K (.ref (He.ma K (kp K) "__repr__")) = true
  p_period : ∃ p, PropOf K (kp K) "period" p (Pl.pr K "period")
  co : StX.CallO K (kp K) (He.ma K (kp K) "__call__")
  mcls : Cls K (He.ga K "Made")
  mmk : Mk K (He.ga K "Made") (He.ma K (He.ga K "Made") "__init__")
  mno_rows : NoAttr K (He.ga K "Made") "rows"
  mM___init__ : Ms K "__init__" "Made.__init__" s_Made___init (He.ma K (He.ga K "Made") "__init__") ["self", "rows"]
  mca : PySem.W.findIn K (.ref (He.ga K "Made")) "__class__" = some (some (.builtin "object.__class__"))
  mmo : PySem.W.mroIn K (He.ga K "Made") (.type "object") = some true
  mkk : PySem.W.kitOne K (.ref (He.ga K "Made")) (.ref (He.ga K "Made")) = some true
  ne : PySem.W.findIn K (.ref (kp K)) "__ne__" = some (some (.builtin "object.__ne__"))
  mo : PySem.W.mroIn K (kp K) (.type "object") = some true
  no_period : NoAttr K (kp K) "_period"
  no_partners : NoAttr K (kp K) "_partners"
  M_period : Ms K "period" "Plan.period" s_Plan_period (Pl.pr K "period") ["self"]
  M_partners : Ms K "partners" "Plan.partners" s_Plan_partners (He.ma K (kp K) "partners") ["self"]
  M_is_same : Ms K "is_same" "Plan.is_same" s_Plan_is_same (He.ma K (kp K) "is_same") ["self", "other"]
  M_reduced : Ms K "reduced" "Plan.reduced" s_Plan_reduced (He.ma K (kp K) "reduced") ["self"]
  M___call__ : Ms K "__call__" "Plan.__call__" s_Plan___call (He.ma K (kp K) "__call__") ["self", "x", "name"]
  M___eq__ : Ms K "__eq__" "Plan.__eq__" s_Plan___eq (He.ma K (kp K) "__eq__") ["self", "other"]
  M___repr__ : Ms K "__repr__" "Plan.__repr__" s_Plan___repr (He.ma K (kp K) "__repr__") ["self"]
  M___init__ : Ms K "__init__" "Plan.__init__" s_Plan___init (He.ma K (kp K) "__init__") ["self", "period", "partners"]
  kt : ∀ n ∈ Ty7, PySem.W.kitOne K (.type n) (.ref (kp K)) = some false ∧ PySem.W.kitOne K (.ref (kp K)) (.type n) = some false ∧ PySem.W.notFirst K (kp K) (.type n) = true
  km : ∀ n ∈ Ty7, PySem.W.kitOne K (.type n) (.ref (He.ga K "Made")) = some false
  kk : PySem.W.kitOne K (.ref (kp K)) (.ref (kp K)) = some true
  ca : PySem.W.findIn K (.ref (kp K)) "__class__" = some (some (.builtin "object.__class__"))
  cn : PySem.W.specialIn K (.builtin "object.__class__") "__get__" = some (some (.builtin "getset_descriptor.__get__"))
  ct : PySem.W.takesIn K (.builtin "object.__class__") = some true
end K63

set_option Elab.async false
set_option linter.all false
set_option maxRecDepth 100000
set_option maxHeartbeats 4000000
namespace Hd
open PySem L2 Lay He PySem.Spec PyProof.Rows
/-- an own error's class, as a test -/
def clB (K : PySem.W.Frag) (C : Addr) (newId : String) (bmB : List Value) : Bool :=
  PySem.W.excInitIn K C bmB newId && (PySem.W.excOver K C bmB && (PySem.W.hasDictIn K C && (eqO (PySem.W.findIn K (.ref C) "__setattr__") (some (some (.builtin "object.__setattr__"))) &&
  (eqO (PySem.W.findIn K (.ref C) "__getattribute__") (some (some (.builtin "BaseException.__getattribute__"))) && (eqO (PySem.W.findIn K (.ref C) "__getattr__") (some none) &&
  (decide (PySem.W.subIn K (.ref C) (.type "BaseException") = some true) && (decide (PySem.W.typeIn K (.ref C) = some (.type "type")) && (PySem.W.keepIn K (.ref C) &&
  (eqO (PySem.W.findIn K (.ref C) "__class__") (some (some (.builtin "object.__class__"))) && decide (PySem.W.mroIn K C (.type "object") = some true))))))))))
theorem cl_ok {K : PySem.W.Frag} {h : Heap} {C : Addr} {newId : String} {bmB : List Value} (X : K.In h) (c : clB K C newId bmB = true) : Exv.Cl K C newId bmB := by
  obtain ⟨c1, c⟩ := ba c
  obtain ⟨c2, c⟩ := ba c
  obtain ⟨c3, c⟩ := ba c
  obtain ⟨c4, c⟩ := ba c
  obtain ⟨c5, c⟩ := ba c
  obtain ⟨c6, c⟩ := ba c
  obtain ⟨c7, c⟩ := ba c
  obtain ⟨c8, c⟩ := ba c
  obtain ⟨c9, c⟩ := ba c
  obtain ⟨c10, c11⟩ := ba c
  refine ⟨?_, eqO_ok c4, eqO_ok c5, eqO_ok c6, of_decide_eq_true c7, of_decide_eq_true c8, c9, c3, eqO_ok c10, of_decide_eq_true c11⟩
  cases q : K.lookup C with
  | none => unfold PySem.W.excInitIn at c1; rw [q] at c1; cases c1
  | some o =>
    obtain ⟨nm, N, qn, bs, bm, hdct, sn, sub, ab, col, dd, k0, k1, k2, k3, k5, hg, _⟩ := PySem.W.excInit_of X c1
    have e := X _ _ q
    rw [hg] at e
    obtain rfl := (Option.some.inj e)
    unfold PySem.W.hasDictIn PySem.W.clsIn at c3
    unfold PySem.W.excOver PySem.W.clsIn at c2
    rw [q] at c2 c3
    have c3' : hdct = true := c3
    subst c3'
    have c2' : (C == C && PySem.W.excTail bmB bm) = true := c2
    exact ⟨nm, qn, N, bs, bm, sn, sub, ab, col, dd, k0, k1, k2, k3, k5, rfl, (ba c2').2⟩
/-! the Hook: own tests, and the defs -/
def obsF (fb : PySem.W.Frag → Bool) (fn : List DefD) (K : PySem.W.Frag) : AlD := (fb K && (obsD [] fn K).1, (obsD [] fn K).2)
def obsFG (n : Nat) (fb : PySem.W.Frag → Bool) (fn : List DefD) (g : Addr → Option Obj) : AlD := obsF fb fn (frG g (asD g n))
def hookF (n : Nat) (fb : PySem.W.Frag → Bool) (fn : List DefD) : PySem.W.Hook where
  α := AlD
  obs := fun s => obsFG n fb fn s.heap.get?
  val := fun _ => valD fn
  says := fun _ h => ∃ K : PySem.W.Frag, K.In h ∧ obsF fb fn K = valD fn
  of := fun _ _ e => ⟨_, frG_in, e⟩
  keeps := fun _ _ _ ⟨K, hK, c⟩ k => ⟨K, PySem.W.Frag.In.keeps hK k, c⟩
theorem obsFG_eq {n : Nat} {fb : PySem.W.Frag → Bool} {fn : List DefD} {g : Addr → Option Obj} {s : Shared} (h : ∀ a, g a = s.heap.get? a) : obsFG n fb fn g = (hookF n fb fn).obs s := by
  have e : g = s.heap.get? := funext h
  rw [e] <;> rfl
theorem says_fb {fb : PySem.W.Frag → Bool} {fn : List DefD} {K : PySem.W.Frag} (c : obsF fb fn K = valD fn) : fb K = true :=
  (ba (show (fb K && (obsD [] fn K).1) = true from congrArg (fun z : AlD => z.1) c)).1
theorem says_fn {fb : PySem.W.Frag → Bool} {fn : List DefD} {K : PySem.W.Frag} (c : obsF fb fn K = valD fn) : SaysD [] fn K :=
  Prod.ext (ba (show (fb K && (obsD [] fn K).1) = true from congrArg (fun z : AlD => z.1) c)).2 (show (obsF fb fn K).2 = (valD fn).2 from congrArg (fun z : AlD => z.2) c)
/-- a def of the text -/
theorem fun_of {K : PySem.W.Frag} {x qual : Str} {st : Stmt} {f : Addr} {fd : FuncData} (F : FunD K x qual (defArgs st) (defBody st) (defScope st) [] [] f fd) : Fun K x qual st f fd := by
  obtain ⟨⟨oc, od, dV, kV, doc, pm, an, cdv, ct, osl, rfl, lk, hcd, hD, hK⟩, kp⟩ := F
  rcases hD with ⟨_, rfl⟩ | ⟨e, _⟩
  · exact ⟨⟨oc, od, kV, doc, pm, an, cdv, ct, osl, rfl, lk, hcd⟩, kp⟩
  · exact absurd rfl e
theorem src_of {K : PySem.W.Frag} {mg : Str → Option Value} {x : Str} {st : Stmt} {ps : List Str} {f : Addr} {fd : FuncData} (F : Fun K x x st f fd) (g : mg x = some (.ref f))
    (h : ∀ (kV doc pm : Value) (an : Option Addr) (cdv ct : Value) (us : List Value), us.length = ps.length → bindArgs (PySem.W.fnOf x x (defArgs st) (defBody st) (defScope st) .none kV doc pm an cdv ct) ⟨us, []⟩ = pure (ps.zip us))
    (h1 : ∀ (kV doc pm : Value) (an : Option Addr) (cdv ct : Value) (p : Str) (v : Value), ps = [p] → bindArgs (PySem.W.fnOf x x (defArgs st) (defBody st) (defScope st) .none kV doc pm an cdv ct) ⟨[], [(p, v)]⟩ = pure [(p, v)]) : Src K mg x st ps := by
  refine ⟨f, fd, F, g, F.binds h, fun p v e => ?_⟩
  obtain ⟨oc, od, kV, doc, pm, an, cdv, ct, osl, rfl, lk, hcd⟩ := F.ex
  exact h1 kV doc pm an cdv ct p v e
/-- a law's end over such a head -/
theorem walk_GE {l : PySem.W.OpenLaw} {n k : Nat} {q : Program} {loose : List Str} {XP : (Str → Option Value) → Heap → Prop} {YP : World → Heap → Prop} {d : DefRec} {x : Str}
    (hn : l.most = some n) (hn2 : n ≤ sizeLine) (hdf : d.params.defaults = []) (hr : Room k callerA)
    (F : ∀ (w : World) (mg : Str → Option Value) (fa : Addr) (h : Heap), YP w h → h.Ns mainGlobals mg → mg d.name = some (.ref fa) →
      ∃ (K : PySem.W.Frag) (fd : FuncData) (sp : Sp), K.In h ∧ (∀ (s : Shared) (u : Value), BindsTo s fd ⟨[u], []⟩ [(x, u)]) ∧
        (∀ (H : Hp) (a : Addr) (ns : List Int), ns.length ≤ n → Only H → SqL K H a (ns.map V.int) → sp [.ref a] H (fun v _ => v = .bl true) fun _ _ _ => False) ∧
        ∀ base : Heap, K.In base → base.Ns mainGlobals mg → FnG l.prog w K mg base CX0 k fa fd [x] sp) :
    PySem.W.WalkO q loose XP YP l.row.toRowW d [] (fun f vs => PySem.call f vs) := by
  refine Att.attach_call hn hdf fun w s0 s1 mg mb fa o pm cd doc a vs ns G Y ho hd hcd hmg hobj hints hlen hg => ?_
  obtain ⟨K, fd, sp, KX, hb, hsp, hF⟩ := F w mg fa _ Y G.T.g hmg
  exact law_callG KX G.T.g G.T.b G.T.builtins G.T.nolimit hg hobj hints (Nat.le_trans hlen hn2) hr hF hb fun H hO hS => hsp H a ns hlen hO hS
end Hd

set_option Elab.async false
set_option linter.all false
set_option maxRecDepth 100000
set_option maxHeartbeats 4000000
namespace Ha
open PySem L2 Lay He Hd PySem.Spec PyProof.Rows
/-- one def: its address, its name, its qualified name, its statement -/
structure DefA where
  ad : PySem.W.Frag → Addr
  name : Str
  qual : Str
  st : Stmt
def fnA (K : PySem.W.Frag) (a : Addr) : FnW := match K.lookup a with
  | some ⟨_, _, .func fd, _⟩ => some (fd.name, fd.qualname, fd.params, fd.body, fd.scope, fd.globals, fd.closure, fd.builtins)
  | _ => none
def isNone : Value → Bool
  | .none => true
  | _ => false
def DefA.val (d : DefA) : FnW := some (d.name, d.qual, defArgs d.st, .stmts (defBody d.st), defScope d.st, mainGlobals, [], builtinsNs)
def DefA.ok (K : PySem.W.Frag) (d : DefA) : Bool := PySem.W.keepIn K (.ref (d.ad K)) && (match K.lookup (d.ad K) with
  | some ⟨_, _, .func fd, _⟩ => PySem.W.codeIn K fd.code d.qual && isNone fd.defaults
  | _ => false)
theorem DefA.fun {K : PySem.W.Frag} {d : DefA} (e : fnA K (d.ad K) = d.val) (c : d.ok K = true) : ∃ fd, Fun K d.name d.qual d.st (d.ad K) fd := by
  obtain ⟨kp, c2⟩ := ba c
  unfold fnA at e
  cases q : K.lookup (d.ad K) with
  | none => rw [q] at c2; cases c2
  | some o =>
    obtain ⟨oc, od, dt, osl⟩ := o
    rw [q] at c2 e
    cases dt with
    | func fd =>
      obtain ⟨n1, n2, n3, n4, n5, n6, n7, n8, n9, n10, n11, n12, n13, n14, n15⟩ := fd
      have e2 : (some (n1, n2, n3, n4, n5, n6, n7, n15) : FnW) = some (d.name, d.qual, defArgs d.st, .stmts (defBody d.st), defScope d.st, mainGlobals, [], builtinsNs) := e
      simp only [Option.some.injEq, Prod.mk.injEq] at e2
      obtain ⟨h1, h2, h3, h4, h5, h6, h7, h8⟩ := e2
      subst h1 h2 h3 h4 h5 h6 h7 h8
      obtain ⟨k1, k2⟩ := ba (show (PySem.W.codeIn K n13 d.qual && isNone n8) = true from c2)
      cases n8 with
      | none => exact ⟨_, ⟨⟨oc, od, n9, n10, n11, n12, n13, n14, osl, rfl, q, k1⟩, kp⟩⟩
      | _ => cases k2
    | _ => cases c2
abbrev AlA : Type := Bool × List FnW
def obsA (fb : PySem.W.Frag → Bool) (fn : List DefA) (K : PySem.W.Frag) : AlA := (fb K && fn.all fun d => d.ok K, fn.map fun d => fnA K (d.ad K))
def valA (fn : List DefA) : AlA := (true, fn.map DefA.val)
def asA (g : Addr → Option Obj) (n : Nat) : List Addr := PySem.cStatics :: asD g n
def obsAG (n : Nat) (fb : PySem.W.Frag → Bool) (fn : List DefA) (g : Addr → Option Obj) : AlA := obsA fb fn (frG g (asA g n))
def hookA (n : Nat) (fb : PySem.W.Frag → Bool) (fn : List DefA) : PySem.W.Hook where
  α := AlA
  obs := fun s => obsAG n fb fn s.heap.get?
  val := fun _ => valA fn
  says := fun _ h => ∃ K : PySem.W.Frag, K.In h ∧ obsA fb fn K = valA fn
  of := fun _ _ e => ⟨_, frG_in, e⟩
  keeps := fun _ _ _ ⟨K, hK, c⟩ k => ⟨K, PySem.W.Frag.In.keeps hK k, c⟩
theorem obsAG_eq {n : Nat} {fb : PySem.W.Frag → Bool} {fn : List DefA} {g : Addr → Option Obj} {s : Shared} (h : ∀ a, g a = s.heap.get? a) : obsAG n fb fn g = (hookA n fb fn).obs s := by
  have e : g = s.heap.get? := funext h
  rw [e] <;> rfl
theorem says_b {fb : PySem.W.Frag → Bool} {fn : List DefA} {K : PySem.W.Frag} (c : obsA fb fn K = valA fn) : fb K = true :=
  (ba (show (fb K && fn.all fun d => d.ok K) = true from congrArg (fun z : AlA => z.1) c)).1
theorem says_d {fb : PySem.W.Frag → Bool} {fn : List DefA} {K : PySem.W.Frag} (c : obsA fb fn K = valA fn) (i : Nat) {d : DefA} (h : fn[i]? = some d := by rfl) : ∃ fd, Fun K d.name d.qual d.st (d.ad K) fd := by
  have c2 := (ba (show (fb K && fn.all fun d => d.ok K) = true from congrArg (fun z : AlA => z.1) c)).2
  have e : fn.map (fun d => fnA K (d.ad K)) = fn.map DefA.val := congrArg (fun z : AlA => z.2) c
  have e2 : (fn.map fun d => fnA K (d.ad K))[i]? = (fn.map DefA.val)[i]? := by rw [e]
  rw [List.getElem?_map, List.getElem?_map, h] at e2
  exact DefA.fun (Option.some.inj e2) (List.all_eq_true.mp c2 d (List.mem_of_getElem? h))
/-- arguments of a def by place, one by its name -/
theorem two_of {K : PySem.W.Frag} {x qual : Str} {st : Stmt} {ps : List Str} {f : Addr} {fd : FuncData} (F : Fun K x qual st f fd)
    (h : ∀ (kV doc pm : Value) (an : Option Addr) (cdv ct : Value) (us : List Value), us.length = ps.length → bindArgs (PySem.W.fnOf x qual (defArgs st) (defBody st) (defScope st) .none kV doc pm an cdv ct) ⟨us, []⟩ = pure (ps.zip us))
    (h1 : ∀ (kV doc pm : Value) (an : Option Addr) (cdv ct : Value) (p : Str) (v : Value), ps = [p] → bindArgs (PySem.W.fnOf x qual (defArgs st) (defBody st) (defScope st) .none kV doc pm an cdv ct) ⟨[], [(p, v)]⟩ = pure [(p, v)]) : Binds K fd ps [] ∧ Kw1 fd ps := by
  refine ⟨F.binds h, fun p v e => ?_⟩
  obtain ⟨oc, od, kV, doc, pm, an, cdv, ct, osl, rfl, lk, hcd⟩ := F.ex
  exact h1 kV doc pm an cdv ct p v e
/-! tests -/
/-- the record of a static method, a property -/
def rcA (K : PySem.W.Frag) (p : Addr) (kind : String) : Addr := match PySem.W.recIn K p kind with
  | some (.ref g :: _) => g
  | _ => 0
def hdR (l : Option (List Value)) (g : Addr) : Bool := match l with
  | some (v :: _) => decide (v = .ref g)
  | _ => false
theorem hdR_ok {l : Option (List Value)} {g : Addr} (c : hdR l g = true) : ∃ rest, l = some (.ref g :: rest) := by
  cases l with
  | none => cases c
  | some l =>
    cases l with
    | nil => cases c
    | cons v r => exact ⟨r, by rw [of_decide_eq_true (show decide (v = .ref g) = true from c)]⟩
def rcB (K : PySem.W.Frag) (p : Addr) (kind : String) : Bool := hdR (PySem.W.recIn K p kind) (rcA K p kind)
theorem rc_ok {K : PySem.W.Frag} {p : Addr} {kind : String} (c : rcB K p kind = true) : ∃ rest, PySem.W.recIn K p kind = some (.ref (rcA K p kind) :: rest) := hdR_ok c
def crdB (K : PySem.W.Frag) (C : Addr) : Bool := PySem.W.readsIn K C (.type "type") && eqO (PySem.W.specialIn K (.ref C) "__getattribute__") (some (some (.builtin "type.__getattribute__")))
theorem crd_ok {K : PySem.W.Frag} {C : Addr} (c : crdB K C = true) : ClX.CRead K C (.type "type") := ⟨(ba c).1, eqO_ok (ba c).2⟩
def isGet (r : Option PySem.W.CFound) (a b c d : Value) : Bool := match r with
  | some (.get a' b' c' d') => decide (a' = a) && (decide (b' = b) && (decide (c' = c) && decide (d' = d)))
  | _ => false
theorem isGet_ok {r : Option PySem.W.CFound} {a b c d : Value} (h : isGet r a b c d = true) : r = some (.get a b c d) := by
  cases r with
  | none => cases h
  | some f =>
    cases f with
    | val v => cases h
    | get a' b' c' d' =>
      obtain ⟨h1, h⟩ := ba (show (decide (a' = a) && (decide (b' = b) && (decide (c' = c) && decide (d' = d)))) = true from h)
      obtain ⟨h2, h⟩ := ba h
      obtain ⟨h3, h4⟩ := ba h
      rw [of_decide_eq_true h1, of_decide_eq_true h2, of_decide_eq_true h3, of_decide_eq_true h4]
def isVal (r : Option PySem.W.CFound) (x : V) : Bool := match r with
  | some (.val v) => relB x v
  | _ => false
theorem isVal_ok {r : Option PySem.W.CFound} {x : V} (h : isVal r x = true) : ∃ u, r = some (.val u) ∧ RelV x u := by
  cases r with
  | none => cases h
  | some f =>
    cases f with
    | val v => exact ⟨v, rfl, relB_ok h⟩
    | get a' b' c' d' => cases h
def cstB (K : PySem.W.Frag) (C : Addr) (m : Str) : Bool := isGet (PySem.W.findCls K (.ref C) (.type "type") m) (.builtin "staticmethod.__get__") (.ref (ma K C m)) .none (.ref C) && (rcB K (ma K C m) "staticmethod" && PySem.W.keepIn K (.ref (rcA K (ma K C m) "staticmethod")))
theorem cst_ok {K : PySem.W.Frag} {C : Addr} {m : Str} (c : cstB K C m = true) :
    PySem.W.findCls K (.ref C) (.type "type") m = some (.get (.builtin "staticmethod.__get__") (.ref (ma K C m)) .none (.ref C)) ∧ (∃ rest, PySem.W.recIn K (ma K C m) "staticmethod" = some (.ref (rcA K (ma K C m) "staticmethod") :: rest)) ∧
      PySem.W.keepIn K (.ref (rcA K (ma K C m) "staticmethod")) = true := ⟨isGet_ok (ba c).1, rc_ok (ba (ba c).2).1, (ba (ba c).2).2⟩
def cviB (K : PySem.W.Frag) (C : Addr) (f : Str) (i : Int) : Bool := isVal (PySem.W.findCls K (.ref C) (.type "type") f) (.int i)
theorem cvi_ok {K : PySem.W.Frag} {C : Addr} {f : Str} {i : Int} (c : cviB K C f i = true) : ∃ u, ClX.CVal K C (.type "type") f (.int i) u := by
  obtain ⟨u, e, r⟩ := isVal_ok c
  exact ⟨u, e, r⟩
def prpB (K : PySem.W.Frag) (C : Addr) (f : Str) : Bool := eqO (PySem.W.findIn K (.ref C) f) (some (some (.ref (ma K C f)))) && (eqO (PySem.W.specialIn K (.ref (ma K C f)) "__get__") (some (some (.builtin "property.__get__"))) &&
  (decide (PySem.W.takesIn K (.ref (ma K C f)) = some true) && rcB K (ma K C f) "property"))
theorem prp_ok {K : PySem.W.Frag} {C : Addr} {f : Str} (c : prpB K C f = true) : PropOf K C f (ma K C f) (rcA K (ma K C f) "property") := by
  obtain ⟨c1, c⟩ := ba c
  obtain ⟨c2, c⟩ := ba c
  obtain ⟨c3, c4⟩ := ba c
  exact ⟨eqO_ok c1, eqO_ok c2, of_decide_eq_true c3, rc_ok c4⟩
def dunB (K : PySem.W.Frag) (C : Addr) (m : Str) : Bool := eqO (PySem.W.findIn K (.ref C) m) (some (some (.ref (ma K C m)))) && PySem.W.isFn K (.ref (ma K C m))
theorem dun_ok {K : PySem.W.Frag} {C : Addr} {m : Str} (c : dunB K C m = true) : PySem.W.findIn K (.ref C) m = some (some (.ref (ma K C m))) ∧ PySem.W.isFn K (.ref (ma K C m)) = true := ⟨eqO_ok (ba c).1, (ba c).2⟩
def ktB (K : PySem.W.Frag) (C : Addr) (ts : List String) : Bool := ts.all fun n => decide (PySem.W.kitOne K (.type n) (.ref C) = some false) && (decide (PySem.W.kitOne K (.ref C) (.type n) = some false) && PySem.W.notFirst K C (.type n))
theorem kt_ok {K : PySem.W.Frag} {C : Addr} {ts : List String} (c : ktB K C ts = true) : ∀ n ∈ ts, PySem.W.kitOne K (.type n) (.ref C) = some false ∧ PySem.W.kitOne K (.ref C) (.type n) = some false ∧ PySem.W.notFirst K C (.type n) = true := fun n hn => by
  obtain ⟨c1, c2⟩ := ba (List.all_eq_true.mp c n hn)
  obtain ⟨c2, c3⟩ := ba c2
  exact ⟨of_decide_eq_true c1, of_decide_eq_true c2, c3⟩
end Ha

set_option Elab.async false
set_option linter.all false
set_option maxRecDepth 100000
set_option maxHeartbeats 4000000
/-! ### the Hook: own tests, defs by address, defs with defaults -/
namespace Hx
open PySem L2 Lay He Hd Ha PySem.Spec PyProof.Rows
structure DefB where
  ad : PySem.W.Frag → Addr
  name : Str
  qual : Str
  st : Stmt
  dvs : List V
def DefB.val (d : DefB) : FnW := some (d.name, d.qual, defArgs d.st, .stmts (defBody d.st), defScope d.st, mainGlobals, [], builtinsNs)
def DefB.ok (K : PySem.W.Frag) (d : DefB) : Bool := PySem.W.keepIn K (.ref (d.ad K)) && (match K.lookup (d.ad K) with
  | some ⟨_, _, .func fd, _⟩ => PySem.W.codeIn K fd.code d.qual && dflB K fd.defaults d.dvs
  | _ => false)
theorem DefB.fun {K : PySem.W.Frag} {d : DefB} (e : fnA K (d.ad K) = d.val) (c : d.ok K = true) : ∃ fd, FunD K d.name d.qual (defArgs d.st) (defBody d.st) (defScope d.st) d.dvs [] (d.ad K) fd := by
  obtain ⟨kp, c2⟩ := ba c
  unfold fnA at e
  cases q : K.lookup (d.ad K) with
  | none => rw [q] at c2; cases c2
  | some o =>
    obtain ⟨oc, od, dt, osl⟩ := o
    rw [q] at c2 e
    cases dt with
    | func fd =>
      obtain ⟨n1, n2, n3, n4, n5, n6, n7, n8, n9, n10, n11, n12, n13, n14, n15⟩ := fd
      have e2 : (some (n1, n2, n3, n4, n5, n6, n7, n15) : FnW) = some (d.name, d.qual, defArgs d.st, .stmts (defBody d.st), defScope d.st, mainGlobals, [], builtinsNs) := e
      simp only [Option.some.injEq, Prod.mk.injEq] at e2
      obtain ⟨h1, h2, h3, h4, h5, h6, h7, h8⟩ := e2
      subst h1 h2 h3 h4 h5 h6 h7 h8
      obtain ⟨k1, k2⟩ := ba (show (PySem.W.codeIn K n13 d.qual && dflB K n8 d.dvs) = true from c2)
      exact ⟨_, ⟨oc, od, n8, n9, n10, n11, n12, n13, n14, osl, rfl, q, k1, dflB_ok k2, .inl rfl⟩, kp⟩
    | _ => cases c2
abbrev AlX : Type := AlA × Bool × List FnW
def obsX (fb : PySem.W.Frag → Bool) (fn : List DefA) (fd : List DefB) (K : PySem.W.Frag) : AlX := (obsA fb fn K, fd.all fun d => d.ok K, fd.map fun d => fnA K (d.ad K))
def valX (fn : List DefA) (fd : List DefB) : AlX := (valA fn, true, fd.map DefB.val)
def obsXG (n : Nat) (fb : PySem.W.Frag → Bool) (fn : List DefA) (fd : List DefB) (g : Addr → Option Obj) : AlX := obsX fb fn fd (frG g (asA g n))
def hookX (n : Nat) (fb : PySem.W.Frag → Bool) (fn : List DefA) (fd : List DefB) : PySem.W.Hook where
  α := AlX
  obs := fun s => obsXG n fb fn fd s.heap.get?
  val := fun _ => valX fn fd
  says := fun _ h => ∃ K : PySem.W.Frag, K.In h ∧ obsX fb fn fd K = valX fn fd
  of := fun _ _ e => ⟨_, frG_in, e⟩
  keeps := fun _ _ _ ⟨K, hK, c⟩ k => ⟨K, PySem.W.Frag.In.keeps hK k, c⟩
theorem obsXG_eq {n : Nat} {fb : PySem.W.Frag → Bool} {fn : List DefA} {fd : List DefB} {g : Addr → Option Obj} {s : Shared} (h : ∀ a, g a = s.heap.get? a) : obsXG n fb fn fd g = (hookX n fb fn fd).obs s := by
  have e : g = s.heap.get? := funext h
  rw [e] <;> rfl
theorem saysX_a {fb : PySem.W.Frag → Bool} {fn : List DefA} {fd : List DefB} {K : PySem.W.Frag} (c : obsX fb fn fd K = valX fn fd) : obsA fb fn K = valA fn := congrArg (fun z : AlX => z.1) c
theorem saysX_d {fb : PySem.W.Frag → Bool} {fn : List DefA} {fl : List DefB} {K : PySem.W.Frag} (c : obsX fb fn fl K = valX fn fl) (i : Nat) {d : DefB} (h : fl[i]? = some d := by rfl) : ∃ fd, FunD K d.name d.qual (defArgs d.st) (defBody d.st) (defScope d.st) d.dvs [] (d.ad K) fd := by
  have c2 : (fl.all fun d => d.ok K) = true := congrArg (fun z : AlX => z.2.1) c
  have e : fl.map (fun d => fnA K (d.ad K)) = fl.map DefB.val := congrArg (fun z : AlX => z.2.2) c
  have e2 : (fl.map fun d => fnA K (d.ad K))[i]? = (fl.map DefB.val)[i]? := by rw [e]
  rw [List.getElem?_map, List.getElem?_map, h] at e2
  exact DefB.fun (Option.some.inj e2) (List.all_eq_true.mp c2 d (List.mem_of_getElem? h))
theorem kw2_of {K : PySem.W.Frag} {x qual : Str} {st : Stmt} {ps : List Str} {f : Addr} {fd : FuncData} (F : Fun K x qual st f fd)
    (h1 : ∀ (kV doc pm : Value) (an : Option Addr) (cdv ct : Value) (a b : Str) (u v : Value), ps = [a, b] → bindArgs (PySem.W.fnOf x qual (defArgs st) (defBody st) (defScope st) .none kV doc pm an cdv ct) ⟨[u], [(b, v)]⟩ = pure [(a, u), (b, v)]) : Rx.Kw2 fd ps := by
  intro a b u v e
  obtain ⟨oc, od, kV, doc, pm, an, cdv, ct, osl, rfl, lk, hcd⟩ := F.ex
  exact h1 kV doc pm an cdv ct a b u v e
theorem kw3_of {K : PySem.W.Frag} {x qual : Str} {st : Stmt} {ps : List Str} {f : Addr} {fd : FuncData} (F : Fun K x qual st f fd)
    (h1 : ∀ (kV doc pm : Value) (an : Option Addr) (cdv ct : Value) (s0 a b : Str) (z u v : Value), ps = [s0, a, b] → bindArgs (PySem.W.fnOf x qual (defArgs st) (defBody st) (defScope st) .none kV doc pm an cdv ct) ⟨[z], [(b, u), (a, v)]⟩ = pure [(s0, z), (a, v), (b, u)]) : Ow.Kw3 fd ps := by
  intro s0 a b z u v e
  obtain ⟨oc, od, kV, doc, pm, an, cdv, ct, osl, rfl, lk, hcd⟩ := F.ex
  exact h1 kV doc pm an cdv ct s0 a b z u v e
def callB (K : PySem.W.Frag) (C : Addr) : Bool := dunB K C "__call__" && PySem.W.fnIn K (ma K C "__call__")
theorem call_ok {K : PySem.W.Frag} {C : Addr} (c : callB K C = true) : StX.CallO K C (ma K C "__call__") := ⟨(dun_ok (ba c).1).1, (dun_ok (ba c).1).2, (ba c).2⟩
def kmB (K : PySem.W.Frag) (C : Addr) (ts : List String) : Bool := ts.all fun n => decide (PySem.W.kitOne K (.type n) (.ref C) = some false)
theorem km_ok {K : PySem.W.Frag} {C : Addr} {ts : List String} (c : kmB K C ts = true) : ∀ n ∈ ts, PySem.W.kitOne K (.type n) (.ref C) = some false := fun n hn => of_decide_eq_true (List.all_eq_true.mp c n hn)
end Hx

set_option Elab.async false
set_option linter.all false
set_option maxRecDepth 100000
set_option maxHeartbeats 0
namespace K63
open PySem L2 Lay He Hd Ha Hx Own PySem.Spec PyProof.Rows
def binB (K : PySem.W.Frag) (C g : Addr) (nm : String) : Bool := PySem.W.selfFirst K C && (eqO (PySem.W.findIn K (.ref C) (PySem.dunder nm)) (some (some (.ref g))) && (PySem.W.isFn K (.ref g) && (eqO (PySem.W.findIn K (.ref C) (dunderR nm)) (some none) &&
  ((PySem.W.findIn K (.type "int") (PySem.dunder nm)).isSome && ((PySem.W.findIn K (.type "int") (dunderR nm)).isSome && decide (PySem.W.subIn K (.type "int") (.ref C) = some false))))))
theorem someOf {α : Type} {o : Option α} (h : o.isSome = true) : ∃ x, o = some x := Option.isSome_iff_exists.mp h
theorem bin_ok {K : PySem.W.Frag} {C g : Addr} {nm : String} (c : binB K C g nm = true) : Ow.BinC K C g nm := by
  obtain ⟨c1, c⟩ := ba c
  obtain ⟨c2, c⟩ := ba c
  obtain ⟨c3, c⟩ := ba c
  obtain ⟨c4, c⟩ := ba c
  obtain ⟨c5, c⟩ := ba c
  obtain ⟨c6, c7⟩ := ba c
  exact ⟨c1, eqO_ok c2, c3, eqO_ok c4, someOf c5, someOf c6, of_decide_eq_true c7⟩
def noiB (K : PySem.W.Frag) (C : Addr) (nm : String) : Bool := (match PySem.W.clsIn K C with
  | some cd => decide (cd.mro = [.ref C, .type "object"])
  | none => false) && (eqO (PySem.W.findIn K (.ref C) (dunderI nm)) (some none) && eqO (PySem.W.findIn K (.type "object") (dunderI nm)) (some none))
theorem noi_ok {K : PySem.W.Frag} {C : Addr} {nm : String} (c : noiB K C nm = true) : Ow.NoInp K C nm := by
  obtain ⟨c1, c⟩ := ba c
  obtain ⟨c2, c3⟩ := ba c
  refine ⟨?_, eqO_ok c2, eqO_ok c3⟩
  cases q : PySem.W.clsIn K C with
  | none => rw [q] at c1; cases c1
  | some cd => rw [q] at c1; exact ⟨cd, rfl, of_decide_eq_true c1⟩
def fnL : List DefA := [
  ⟨fun K => ga K "is_integer", "is_integer", "is_integer", s_is_integer⟩,
  ⟨fun K => ga K "is_count", "is_count", "is_count", s_is_count⟩,
  ⟨fun K => ga K "is_name", "is_name", "is_name", s_is_name⟩,
  ⟨fun K => ga K "is_period", "is_period", "is_period", s_is_period⟩,
  ⟨fun K => ga K "is_remainder", "is_remainder", "is_remainder", s_is_remainder⟩,
  ⟨fun K => ga K "is_partner", "is_partner", "is_partner", s_is_partner⟩,
  ⟨fun K => ga K "leads_back", "leads_back", "leads_back", s_leads_back⟩,
  ⟨fun K => ga K "is_partners", "is_partners", "is_partners", s_is_partners⟩,
  ⟨fun K => ga K "in_sequence", "in_sequence", "in_sequence", s_in_sequence⟩,
  ⟨fun K => ga K "check_column", "check_column", "check_column", s_check_column⟩,
  ⟨fun K => ga K "comes_again", "comes_again", "comes_again", s_comes_again⟩,
  ⟨fun K => ga K "least_step", "least_step", "least_step", s_least_step⟩,
  ⟨fun K => ga K "_law_pot", "_law_pot", "_law_pot", s_l_pot⟩,
  ⟨fun K => ga K "_law_draw", "_law_draw", "_law_draw", s_l_draw⟩,
  ⟨fun K => ga K "_law_pick", "_law_pick", "_law_pick", s_l_pick⟩,
  ⟨fun K => ga K "_law_named", "_law_named", "_law_named", s_l_named⟩,
  ⟨fun K => ga K "_law_mates", "_law_mates", "_law_mates", s_l_mates⟩,
  ⟨fun K => ga K "_law_mate", "_law_mate", "_law_mate", s_l_mate⟩,
  ⟨fun K => ga K "_law_longer", "_law_longer", "_law_longer", s_l_longer⟩,
  ⟨fun K => ga K "_law_comes_again", "_law_comes_again", "_law_comes_again", s_l_comes_again⟩,
  ⟨fun K => ga K "_law_least", "_law_least", "_law_least", s_l_least⟩,
  ⟨fun K => ga K "_law_common", "_law_common", "_law_common", s_l_common⟩,
  ⟨fun K => ga K "_law_are_same", "_law_are_same", "_law_are_same", s_l_are_same⟩,
  ⟨fun K => ga K "_law_less", "_law_less", "_law_less", s_l_less⟩,
  ⟨fun K => ga K "_law_turned", "_law_turned", "_law_turned", s_l_turned⟩,
  ⟨fun K => ga K "_law_others", "_law_others", "_law_others", s_l_others⟩,
  ⟨fun K => ga K "_law_reduced_right", "_law_reduced_right", "_law_reduced_right", s_l_reduced_right⟩,
  ⟨fun K => ga K "_law_right", "_law_right", "_law_right", s_l_right⟩,
  ⟨fun K => ga K "law", "law", "law", s_law⟩,
  ⟨fun K => Pl.pr K "period", "period", "Plan.period", s_Plan_period⟩,
  ⟨fun K => ma K (kp K) "partners", "partners", "Plan.partners", s_Plan_partners⟩,
  ⟨fun K => ma K (kp K) "is_same", "is_same", "Plan.is_same", s_Plan_is_same⟩,
  ⟨fun K => ma K (kp K) "reduced", "reduced", "Plan.reduced", s_Plan_reduced⟩,
  ⟨fun K => ma K (kp K) "__call__", "__call__", "Plan.__call__", s_Plan___call⟩,
  ⟨fun K => ma K (kp K) "__eq__", "__eq__", "Plan.__eq__", s_Plan___eq⟩,
  ⟨fun K => ma K (kp K) "__repr__", "__repr__", "Plan.__repr__", s_Plan___repr⟩,
  ⟨fun K => ma K (kp K) "__init__", "__init__", "Plan.__init__", s_Plan___init⟩,
  ⟨fun K => ma K (ga K "Made") "__init__", "__init__", "Made.__init__", s_Made___init⟩]
def fdL : List DefB := []
def faL : List He.Fa := [.free "len", .free "int", .free "abs", .free "max", .free "min", .free "divmod", .free "isinstance", .free "bool", .free "str", .free "repr", .free "range", .free "all", .free "any", .free "tuple", .free "list", .free "sorted", .free "dict", .free "enumerate", .free "ValueError", .free "LookupError", .int "MOST_LETTERS" 8, .int "FARTHEST" 60, .glo "is_integer", .glo "is_count", .glo "is_name", .glo "is_period", .glo "is_remainder", .glo "is_partner", .glo "leads_back", .glo "is_partners", .glo "in_sequence", .glo "check_column", .glo "comes_again", .glo "least_step", .glo "_law_pot", .glo "_law_draw", .glo "_law_pick", .glo "_law_named", .glo "_law_mates", .glo "_law_mate", .glo "_law_longer", .glo "_law_comes_again", .glo "_law_least", .glo "_law_common", .glo "_law_are_same", .glo "_law_less", .glo "_law_turned", .glo "_law_others", .glo "_law_reduced_right", .glo "_law_right", .glo "law", .glo "Plan", .glo "Made", .cls "Plan", .mkr "Plan", .cls "Made", .mkr "Made", .noat "Made" "rows", .meth "Plan" "partners", .meth "Plan" "is_same", .meth "Plan" "reduced", .noat "Plan" "_period", .noat "Plan" "_partners"]
def fbL : List (PySem.W.Frag → Bool) := [
  fun K => faL.all fun f => f.ok K,
  fun K => crdB K (kp K),
  fun K => cviB K (kp K) "MOST_PERIOD" 500,
  fun K => prpB K (kp K) "period",
  fun K => dunB K (kp K) "__call__",
  fun K => dunB K (kp K) "__eq__",
  fun K => dunB K (kp K) "__repr__",
  fun K => eqO (PySem.W.findIn K (.ref (kp K)) "__ne__") (some (some (.builtin "object.__ne__"))),
  fun K => decide (PySem.W.mroIn K (kp K) (.type "object") = some true),
  fun K => ktB K (kp K) Ty7,
  fun K => kmB K (ga K "Made") Ty7,
  fun K => decide (PySem.W.kitOne K (.ref (kp K)) (.ref (kp K)) = some true),
  fun K => eqO (PySem.W.findIn K (.ref (kp K)) "__class__") (some (some (.builtin "object.__class__"))),
  fun K => decide (PySem.W.specialIn K (.builtin "object.__class__") "__get__" = some (some (.builtin "getset_descriptor.__get__"))),
  fun K => decide (PySem.W.takesIn K (.builtin "object.__class__") = some true),
  fun K => callB K (kp K),
  fun K => eqO (PySem.W.findIn K (.ref (ga K "Made")) "__class__") (some (some (.builtin "object.__class__"))),
  fun K => decide (PySem.W.mroIn K (ga K "Made") (.type "object") = some true),
  fun K => decide (PySem.W.kitOne K (.ref (ga K "Made")) (.ref (ga K "Made")) = some true)]
def fb (K : PySem.W.Frag) : Bool := fbL.all fun f => f K
abbrev R : PySem.W.OpenRow := PySem.W.OpenLaw.row PySem.Challenge.rw_twoeach_k63_whole_reduced_and_same
abbrev hk : PySem.W.Hook := hookX 5 fb fnL fdL
def ob (s : PySem.W.SharedT) : Hx.AlX := obsXG 5 fb fnL fdL (HandSHeadRun.getT s)
theorem ob_eq (s : PySem.W.SharedT) : ob s = hk.obs s.abs := obsXG_eq (HandSHeadRun.getT_eq s)
def looseL : List PySem.Str := [("MOST_LETTERS" : PySem.Str), ("FARTHEST" : PySem.Str), ("_wall" : PySem.Str), ("is_integer" : PySem.Str), ("is_count" : PySem.Str), ("is_name" : PySem.Str), ("LineError" : PySem.Str), ("InvalidPeriod" : PySem.Str), ("InvalidPartners" : PySem.Str), ("InvalidColumn" : PySem.Str), ("MissingError" : PySem.Str), ("UnknownName" : PySem.Str), ("check_column" : PySem.Str), ("is_period" : PySem.Str), ("is_remainder" : PySem.Str), ("is_partner" : PySem.Str), ("leads_back" : PySem.Str), ("is_partners" : PySem.Str), ("in_sequence" : PySem.Str), ("comes_again" : PySem.Str), ("least_step" : PySem.Str), ("Made" : PySem.Str), ("Plan" : PySem.Str), ("_law_pot" : PySem.Str), ("_law_draw" : PySem.Str), ("_law_pick" : PySem.Str), ("_law_named" : PySem.Str), ("_law_mates" : PySem.Str), ("_law_mate" : PySem.Str), ("_law_longer" : PySem.Str), ("_law_comes_again" : PySem.Str), ("_law_least" : PySem.Str), ("_law_common" : PySem.Str), ("_law_are_same" : PySem.Str), ("_law_less" : PySem.Str), ("_law_turned" : PySem.Str), ("_law_others" : PySem.Str), ("_law_reduced_right" : PySem.Str), ("_law_right" : PySem.Str)]
end K63

set_option Elab.async false
set_option linter.all false
set_option maxRecDepth 100000
set_option maxHeartbeats 0
namespace K63
open PySem L2 Lay He Hd Ha Hx
theorem run (w : World) : HandSHeadRun.RunEq R (PySem.W.view R.prog [44]) hk ob 9600 looseL w := by
  intro os
  kernel_rfl
end K63

set_option Elab.async false
set_option linter.all false
set_option maxRecDepth 100000
set_option maxHeartbeats 4000000
namespace K63
open PySem L2 Lay He Hd Ha Hx Own
section
variable {K : PySem.W.Frag} {h : Heap} {mg : Str → Option Value}
theorem fb_at (c : fb K = true) (i : Nat) {f : PySem.W.Frag → Bool} (e : fbL[i]? = some f := by rfl) : f K = true := List.all_eq_true.mp (show (fbL.all fun f => f K) = true from c) f (List.mem_of_getElem? e)
theorem fa_at (c : fb K = true) (i : Nat) {f : He.Fa} (e : faL[i]? = some f := by rfl) : f.ok K = true := List.all_eq_true.mp (fb_at c 0) f (List.mem_of_getElem? e)
theorem t_n_len (X : K.In h) (G : h.Ns mainGlobals mg) (cx : obsX fb fnL fdL K = valX fnL fdL) : mg "len" = none := by
  have cc := saysX_a cx
  have c : fb K = true := says_b cc
  exact free_ok X G (fa_at c 0)
theorem t_n_int (X : K.In h) (G : h.Ns mainGlobals mg) (cx : obsX fb fnL fdL K = valX fnL fdL) : mg "int" = none := by
  have cc := saysX_a cx
  have c : fb K = true := says_b cc
  exact free_ok X G (fa_at c 1)
theorem t_n_abs (X : K.In h) (G : h.Ns mainGlobals mg) (cx : obsX fb fnL fdL K = valX fnL fdL) : mg "abs" = none := by
  have cc := saysX_a cx
  have c : fb K = true := says_b cc
  exact free_ok X G (fa_at c 2)
theorem t_n_max (X : K.In h) (G : h.Ns mainGlobals mg) (cx : obsX fb fnL fdL K = valX fnL fdL) : mg "max" = none := by
  have cc := saysX_a cx
  have c : fb K = true := says_b cc
  exact free_ok X G (fa_at c 3)
theorem t_n_min (X : K.In h) (G : h.Ns mainGlobals mg) (cx : obsX fb fnL fdL K = valX fnL fdL) : mg "min" = none := by
  have cc := saysX_a cx
  have c : fb K = true := says_b cc
  exact free_ok X G (fa_at c 4)
theorem t_n_divmod (X : K.In h) (G : h.Ns mainGlobals mg) (cx : obsX fb fnL fdL K = valX fnL fdL) : mg "divmod" = none := by
  have cc := saysX_a cx
  have c : fb K = true := says_b cc
  exact free_ok X G (fa_at c 5)
theorem t_n_isinstance (X : K.In h) (G : h.Ns mainGlobals mg) (cx : obsX fb fnL fdL K = valX fnL fdL) : mg "isinstance" = none := by
  have cc := saysX_a cx
  have c : fb K = true := says_b cc
  exact free_ok X G (fa_at c 6)
theorem t_n_bool (X : K.In h) (G : h.Ns mainGlobals mg) (cx : obsX fb fnL fdL K = valX fnL fdL) : mg "bool" = none := by
  have cc := saysX_a cx
  have c : fb K = true := says_b cc
  exact free_ok X G (fa_at c 7)
theorem t_n_str (X : K.In h) (G : h.Ns mainGlobals mg) (cx : obsX fb fnL fdL K = valX fnL fdL) : mg "str" = none := by
  have cc := saysX_a cx
  have c : fb K = true := says_b cc
  exact free_ok X G (fa_at c 8)
theorem t_n_repr (X : K.In h) (G : h.Ns mainGlobals mg) (cx : obsX fb fnL fdL K = valX fnL fdL) : mg "repr" = none := by
  have cc := saysX_a cx
  have c : fb K = true := says_b cc
  exact free_ok X G (fa_at c 9)
theorem t_n_range (X : K.In h) (G : h.Ns mainGlobals mg) (cx : obsX fb fnL fdL K = valX fnL fdL) : mg "range" = none := by
  have cc := saysX_a cx
  have c : fb K = true := says_b cc
  exact free_ok X G (fa_at c 10)
theorem t_n_all (X : K.In h) (G : h.Ns mainGlobals mg) (cx : obsX fb fnL fdL K = valX fnL fdL) : mg "all" = none := by
  have cc := saysX_a cx
  have c : fb K = true := says_b cc
  exact free_ok X G (fa_at c 11)
theorem t_n_any (X : K.In h) (G : h.Ns mainGlobals mg) (cx : obsX fb fnL fdL K = valX fnL fdL) : mg "any" = none := by
  have cc := saysX_a cx
  have c : fb K = true := says_b cc
  exact free_ok X G (fa_at c 12)
theorem t_n_tuple (X : K.In h) (G : h.Ns mainGlobals mg) (cx : obsX fb fnL fdL K = valX fnL fdL) : mg "tuple" = none := by
  have cc := saysX_a cx
  have c : fb K = true := says_b cc
  exact free_ok X G (fa_at c 13)
theorem t_n_list (X : K.In h) (G : h.Ns mainGlobals mg) (cx : obsX fb fnL fdL K = valX fnL fdL) : mg "list" = none := by
  have cc := saysX_a cx
  have c : fb K = true := says_b cc
  exact free_ok X G (fa_at c 14)
theorem t_n_sorted (X : K.In h) (G : h.Ns mainGlobals mg) (cx : obsX fb fnL fdL K = valX fnL fdL) : mg "sorted" = none := by
  have cc := saysX_a cx
  have c : fb K = true := says_b cc
  exact free_ok X G (fa_at c 15)
theorem t_n_dict (X : K.In h) (G : h.Ns mainGlobals mg) (cx : obsX fb fnL fdL K = valX fnL fdL) : mg "dict" = none := by
  have cc := saysX_a cx
  have c : fb K = true := says_b cc
  exact free_ok X G (fa_at c 16)
theorem t_n_enumerate (X : K.In h) (G : h.Ns mainGlobals mg) (cx : obsX fb fnL fdL K = valX fnL fdL) : mg "enumerate" = none := by
  have cc := saysX_a cx
  have c : fb K = true := says_b cc
  exact free_ok X G (fa_at c 17)
theorem t_n_ValueError (X : K.In h) (G : h.Ns mainGlobals mg) (cx : obsX fb fnL fdL K = valX fnL fdL) : mg "ValueError" = none := by
  have cc := saysX_a cx
  have c : fb K = true := says_b cc
  exact free_ok X G (fa_at c 18)
theorem t_n_LookupError (X : K.In h) (G : h.Ns mainGlobals mg) (cx : obsX fb fnL fdL K = valX fnL fdL) : mg "LookupError" = none := by
  have cc := saysX_a cx
  have c : fb K = true := says_b cc
  exact free_ok X G (fa_at c 19)
theorem t_c_MOST_LETTERS (X : K.In h) (G : h.Ns mainGlobals mg) (cx : obsX fb fnL fdL K = valX fnL fdL) : ∃ u, mg "MOST_LETTERS" = some u ∧ RelV (.int 8) u := by
  have cc := saysX_a cx
  have c : fb K = true := says_b cc
  obtain ⟨t, e⟩ := int_ok X G (fa_at c 20); exact ⟨_, e, t, rfl⟩
theorem t_c_FARTHEST (X : K.In h) (G : h.Ns mainGlobals mg) (cx : obsX fb fnL fdL K = valX fnL fdL) : ∃ u, mg "FARTHEST" = some u ∧ RelV (.int 60) u := by
  have cc := saysX_a cx
  have c : fb K = true := says_b cc
  obtain ⟨t, e⟩ := int_ok X G (fa_at c 21); exact ⟨_, e, t, rfl⟩
theorem t_S_is_integer (X : K.In h) (G : h.Ns mainGlobals mg) (cx : obsX fb fnL fdL K = valX fnL fdL) : Src K mg "is_integer" s_is_integer ["value"] := by
  have cc := saysX_a cx
  have c : fb K = true := says_b cc
  obtain ⟨fd, F⟩ := says_d cc 0; obtain ⟨b1, b2⟩ := two_of (ps := ["value"]) F (fun _ _ _ _ _ _ us hl => match us, hl with | [_], _ => rfl) (fun _ _ _ _ _ _ p v e => by cases e; rfl); exact ⟨_, fd, F, glo_ok X G (fa_at c 22), b1, b2⟩
theorem t_S_is_count (X : K.In h) (G : h.Ns mainGlobals mg) (cx : obsX fb fnL fdL K = valX fnL fdL) : Src K mg "is_count" s_is_count ["value"] := by
  have cc := saysX_a cx
  have c : fb K = true := says_b cc
  obtain ⟨fd, F⟩ := says_d cc 1; obtain ⟨b1, b2⟩ := two_of (ps := ["value"]) F (fun _ _ _ _ _ _ us hl => match us, hl with | [_], _ => rfl) (fun _ _ _ _ _ _ p v e => by cases e; rfl); exact ⟨_, fd, F, glo_ok X G (fa_at c 23), b1, b2⟩
theorem t_S_is_name (X : K.In h) (G : h.Ns mainGlobals mg) (cx : obsX fb fnL fdL K = valX fnL fdL) : Src K mg "is_name" s_is_name ["value"] := by
  have cc := saysX_a cx
  have c : fb K = true := says_b cc
  obtain ⟨fd, F⟩ := says_d cc 2; obtain ⟨b1, b2⟩ := two_of (ps := ["value"]) F (fun _ _ _ _ _ _ us hl => match us, hl with | [_], _ => rfl) (fun _ _ _ _ _ _ p v e => by cases e; rfl); exact ⟨_, fd, F, glo_ok X G (fa_at c 24), b1, b2⟩
theorem t_S_is_period (X : K.In h) (G : h.Ns mainGlobals mg) (cx : obsX fb fnL fdL K = valX fnL fdL) : Src K mg "is_period" s_is_period ["value"] := by
  have cc := saysX_a cx
  have c : fb K = true := says_b cc
  obtain ⟨fd, F⟩ := says_d cc 3; obtain ⟨b1, b2⟩ := two_of (ps := ["value"]) F (fun _ _ _ _ _ _ us hl => match us, hl with | [_], _ => rfl) (fun _ _ _ _ _ _ p v e => by cases e; rfl); exact ⟨_, fd, F, glo_ok X G (fa_at c 25), b1, b2⟩
theorem t_S_is_remainder (X : K.In h) (G : h.Ns mainGlobals mg) (cx : obsX fb fnL fdL K = valX fnL fdL) : Src K mg "is_remainder" s_is_remainder ["value", "period"] := by
  have cc := saysX_a cx
  have c : fb K = true := says_b cc
  obtain ⟨fd, F⟩ := says_d cc 4; obtain ⟨b1, b2⟩ := two_of (ps := ["value", "period"]) F (fun _ _ _ _ _ _ us hl => match us, hl with | [_, _], _ => rfl) (fun _ _ _ _ _ _ p v e => by cases e); exact ⟨_, fd, F, glo_ok X G (fa_at c 26), b1, b2⟩
theorem t_S_is_partner (X : K.In h) (G : h.Ns mainGlobals mg) (cx : obsX fb fnL fdL K = valX fnL fdL) : Src K mg "is_partner" s_is_partner ["value"] := by
  have cc := saysX_a cx
  have c : fb K = true := says_b cc
  obtain ⟨fd, F⟩ := says_d cc 5; obtain ⟨b1, b2⟩ := two_of (ps := ["value"]) F (fun _ _ _ _ _ _ us hl => match us, hl with | [_], _ => rfl) (fun _ _ _ _ _ _ p v e => by cases e; rfl); exact ⟨_, fd, F, glo_ok X G (fa_at c 27), b1, b2⟩
theorem t_S_leads_back (X : K.In h) (G : h.Ns mainGlobals mg) (cx : obsX fb fnL fdL K = valX fnL fdL) : Src K mg "leads_back" s_leads_back ["period", "partners", "at"] := by
  have cc := saysX_a cx
  have c : fb K = true := says_b cc
  obtain ⟨fd, F⟩ := says_d cc 6; obtain ⟨b1, b2⟩ := two_of (ps := ["period", "partners", "at"]) F (fun _ _ _ _ _ _ us hl => match us, hl with | [_, _, _], _ => rfl) (fun _ _ _ _ _ _ p v e => by cases e); exact ⟨_, fd, F, glo_ok X G (fa_at c 28), b1, b2⟩
theorem t_S_is_partners (X : K.In h) (G : h.Ns mainGlobals mg) (cx : obsX fb fnL fdL K = valX fnL fdL) : Src K mg "is_partners" s_is_partners ["period", "value"] := by
  have cc := saysX_a cx
  have c : fb K = true := says_b cc
  obtain ⟨fd, F⟩ := says_d cc 7; obtain ⟨b1, b2⟩ := two_of (ps := ["period", "value"]) F (fun _ _ _ _ _ _ us hl => match us, hl with | [_, _], _ => rfl) (fun _ _ _ _ _ _ p v e => by cases e); exact ⟨_, fd, F, glo_ok X G (fa_at c 29), b1, b2⟩
theorem t_S_in_sequence (X : K.In h) (G : h.Ns mainGlobals mg) (cx : obsX fb fnL fdL K = valX fnL fdL) : Src K mg "in_sequence" s_in_sequence ["partners"] := by
  have cc := saysX_a cx
  have c : fb K = true := says_b cc
  obtain ⟨fd, F⟩ := says_d cc 8; obtain ⟨b1, b2⟩ := two_of (ps := ["partners"]) F (fun _ _ _ _ _ _ us hl => match us, hl with | [_], _ => rfl) (fun _ _ _ _ _ _ p v e => by cases e; rfl); exact ⟨_, fd, F, glo_ok X G (fa_at c 30), b1, b2⟩
theorem t_S_check_column (X : K.In h) (G : h.Ns mainGlobals mg) (cx : obsX fb fnL fdL K = valX fnL fdL) : Src K mg "check_column" s_check_column ["value"] := by
  have cc := saysX_a cx
  have c : fb K = true := says_b cc
  obtain ⟨fd, F⟩ := says_d cc 9; obtain ⟨b1, b2⟩ := two_of (ps := ["value"]) F (fun _ _ _ _ _ _ us hl => match us, hl with | [_], _ => rfl) (fun _ _ _ _ _ _ p v e => by cases e; rfl); exact ⟨_, fd, F, glo_ok X G (fa_at c 31), b1, b2⟩
theorem t_S_comes_again (X : K.In h) (G : h.Ns mainGlobals mg) (cx : obsX fb fnL fdL K = valX fnL fdL) : Src K mg "comes_again" s_comes_again ["partners", "period", "step"] := by
  have cc := saysX_a cx
  have c : fb K = true := says_b cc
  obtain ⟨fd, F⟩ := says_d cc 10; obtain ⟨b1, b2⟩ := two_of (ps := ["partners", "period", "step"]) F (fun _ _ _ _ _ _ us hl => match us, hl with | [_, _, _], _ => rfl) (fun _ _ _ _ _ _ p v e => by cases e); exact ⟨_, fd, F, glo_ok X G (fa_at c 32), b1, b2⟩
theorem t_S_least_step (X : K.In h) (G : h.Ns mainGlobals mg) (cx : obsX fb fnL fdL K = valX fnL fdL) : Src K mg "least_step" s_least_step ["partners", "period"] := by
  have cc := saysX_a cx
  have c : fb K = true := says_b cc
  obtain ⟨fd, F⟩ := says_d cc 11; obtain ⟨b1, b2⟩ := two_of (ps := ["partners", "period"]) F (fun _ _ _ _ _ _ us hl => match us, hl with | [_, _], _ => rfl) (fun _ _ _ _ _ _ p v e => by cases e); exact ⟨_, fd, F, glo_ok X G (fa_at c 33), b1, b2⟩
theorem t_S_l_pot (X : K.In h) (G : h.Ns mainGlobals mg) (cx : obsX fb fnL fdL K = valX fnL fdL) : Src K mg "_law_pot" s_l_pot ["_law_script", "_law_k"] := by
  have cc := saysX_a cx
  have c : fb K = true := says_b cc
  obtain ⟨fd, F⟩ := says_d cc 12; obtain ⟨b1, b2⟩ := two_of (ps := ["_law_script", "_law_k"]) F (fun _ _ _ _ _ _ us hl => match us, hl with | [_, _], _ => rfl) (fun _ _ _ _ _ _ p v e => by cases e); exact ⟨_, fd, F, glo_ok X G (fa_at c 34), b1, b2⟩
theorem t_S_l_draw (X : K.In h) (G : h.Ns mainGlobals mg) (cx : obsX fb fnL fdL K = valX fnL fdL) : Src K mg "_law_draw" s_l_draw ["_law_pot_here", "_law_lot"] := by
  have cc := saysX_a cx
  have c : fb K = true := says_b cc
  obtain ⟨fd, F⟩ := says_d cc 13; obtain ⟨b1, b2⟩ := two_of (ps := ["_law_pot_here", "_law_lot"]) F (fun _ _ _ _ _ _ us hl => match us, hl with | [_, _], _ => rfl) (fun _ _ _ _ _ _ p v e => by cases e); exact ⟨_, fd, F, glo_ok X G (fa_at c 35), b1, b2⟩
theorem t_S_l_pick (X : K.In h) (G : h.Ns mainGlobals mg) (cx : obsX fb fnL fdL K = valX fnL fdL) : Src K mg "_law_pick" s_l_pick ["_law_pot_here", "_law_some"] := by
  have cc := saysX_a cx
  have c : fb K = true := says_b cc
  obtain ⟨fd, F⟩ := says_d cc 14; obtain ⟨b1, b2⟩ := two_of (ps := ["_law_pot_here", "_law_some"]) F (fun _ _ _ _ _ _ us hl => match us, hl with | [_, _], _ => rfl) (fun _ _ _ _ _ _ p v e => by cases e); exact ⟨_, fd, F, glo_ok X G (fa_at c 36), b1, b2⟩
theorem t_S_l_named (X : K.In h) (G : h.Ns mainGlobals mg) (cx : obsX fb fnL fdL K = valX fnL fdL) : Src K mg "_law_named" s_l_named ["_law_pot_here", "_law_lot"] := by
  have cc := saysX_a cx
  have c : fb K = true := says_b cc
  obtain ⟨fd, F⟩ := says_d cc 15; obtain ⟨b1, b2⟩ := two_of (ps := ["_law_pot_here", "_law_lot"]) F (fun _ _ _ _ _ _ us hl => match us, hl with | [_, _], _ => rfl) (fun _ _ _ _ _ _ p v e => by cases e); exact ⟨_, fd, F, glo_ok X G (fa_at c 37), b1, b2⟩
theorem t_S_l_mates (X : K.In h) (G : h.Ns mainGlobals mg) (cx : obsX fb fnL fdL K = valX fnL fdL) : Src K mg "_law_mates" s_l_mates ["_law_pot_here", "_law_labels", "_law_span", "_law_lot"] := by
  have cc := saysX_a cx
  have c : fb K = true := says_b cc
  obtain ⟨fd, F⟩ := says_d cc 16; obtain ⟨b1, b2⟩ := two_of (ps := ["_law_pot_here", "_law_labels", "_law_span", "_law_lot"]) F (fun _ _ _ _ _ _ us hl => match us, hl with | [_, _, _, _], _ => rfl) (fun _ _ _ _ _ _ p v e => by cases e); exact ⟨_, fd, F, glo_ok X G (fa_at c 38), b1, b2⟩
theorem t_S_l_mate (X : K.In h) (G : h.Ns mainGlobals mg) (cx : obsX fb fnL fdL K = valX fnL fdL) : Src K mg "_law_mate" s_l_mate ["_law_span", "_law_mates_here", "_law_at", "_law_label"] := by
  have cc := saysX_a cx
  have c : fb K = true := says_b cc
  obtain ⟨fd, F⟩ := says_d cc 17; obtain ⟨b1, b2⟩ := two_of (ps := ["_law_span", "_law_mates_here", "_law_at", "_law_label"]) F (fun _ _ _ _ _ _ us hl => match us, hl with | [_, _, _, _], _ => rfl) (fun _ _ _ _ _ _ p v e => by cases e); exact ⟨_, fd, F, glo_ok X G (fa_at c 39), b1, b2⟩
theorem t_S_l_longer (X : K.In h) (G : h.Ns mainGlobals mg) (cx : obsX fb fnL fdL K = valX fnL fdL) : Src K mg "_law_longer" s_l_longer ["_law_span", "_law_mates_here", "_law_lot"] := by
  have cc := saysX_a cx
  have c : fb K = true := says_b cc
  obtain ⟨fd, F⟩ := says_d cc 18; obtain ⟨b1, b2⟩ := two_of (ps := ["_law_span", "_law_mates_here", "_law_lot"]) F (fun _ _ _ _ _ _ us hl => match us, hl with | [_, _, _], _ => rfl) (fun _ _ _ _ _ _ p v e => by cases e); exact ⟨_, fd, F, glo_ok X G (fa_at c 40), b1, b2⟩
theorem t_S_l_comes_again (X : K.In h) (G : h.Ns mainGlobals mg) (cx : obsX fb fnL fdL K = valX fnL fdL) : Src K mg "_law_comes_again" s_l_comes_again ["_law_span", "_law_mates_here", "_law_by"] := by
  have cc := saysX_a cx
  have c : fb K = true := says_b cc
  obtain ⟨fd, F⟩ := says_d cc 19; obtain ⟨b1, b2⟩ := two_of (ps := ["_law_span", "_law_mates_here", "_law_by"]) F (fun _ _ _ _ _ _ us hl => match us, hl with | [_, _, _], _ => rfl) (fun _ _ _ _ _ _ p v e => by cases e); exact ⟨_, fd, F, glo_ok X G (fa_at c 41), b1, b2⟩
theorem t_S_l_least (X : K.In h) (G : h.Ns mainGlobals mg) (cx : obsX fb fnL fdL K = valX fnL fdL) : Src K mg "_law_least" s_l_least ["_law_span", "_law_mates_here"] := by
  have cc := saysX_a cx
  have c : fb K = true := says_b cc
  obtain ⟨fd, F⟩ := says_d cc 20; obtain ⟨b1, b2⟩ := two_of (ps := ["_law_span", "_law_mates_here"]) F (fun _ _ _ _ _ _ us hl => match us, hl with | [_, _], _ => rfl) (fun _ _ _ _ _ _ p v e => by cases e); exact ⟨_, fd, F, glo_ok X G (fa_at c 42), b1, b2⟩
theorem t_S_l_common (X : K.In h) (G : h.Ns mainGlobals mg) (cx : obsX fb fnL fdL K = valX fnL fdL) : Src K mg "_law_common" s_l_common ["_law_one", "_law_far"] := by
  have cc := saysX_a cx
  have c : fb K = true := says_b cc
  obtain ⟨fd, F⟩ := says_d cc 21; obtain ⟨b1, b2⟩ := two_of (ps := ["_law_one", "_law_far"]) F (fun _ _ _ _ _ _ us hl => match us, hl with | [_, _], _ => rfl) (fun _ _ _ _ _ _ p v e => by cases e); exact ⟨_, fd, F, glo_ok X G (fa_at c 43), b1, b2⟩
theorem t_S_l_are_same (X : K.In h) (G : h.Ns mainGlobals mg) (cx : obsX fb fnL fdL K = valX fnL fdL) : Src K mg "_law_are_same" s_l_are_same ["_law_one", "_law_mate_here", "_law_labels"] := by
  have cc := saysX_a cx
  have c : fb K = true := says_b cc
  obtain ⟨fd, F⟩ := says_d cc 22; obtain ⟨b1, b2⟩ := two_of (ps := ["_law_one", "_law_mate_here", "_law_labels"]) F (fun _ _ _ _ _ _ us hl => match us, hl with | [_, _, _], _ => rfl) (fun _ _ _ _ _ _ p v e => by cases e); exact ⟨_, fd, F, glo_ok X G (fa_at c 44), b1, b2⟩
theorem t_S_l_less (X : K.In h) (G : h.Ns mainGlobals mg) (cx : obsX fb fnL fdL K = valX fnL fdL) : Src K mg "_law_less" s_l_less ["_law_pot_here", "_law_span", "_law_mates_here"] := by
  have cc := saysX_a cx
  have c : fb K = true := says_b cc
  obtain ⟨fd, F⟩ := says_d cc 23; obtain ⟨b1, b2⟩ := two_of (ps := ["_law_pot_here", "_law_span", "_law_mates_here"]) F (fun _ _ _ _ _ _ us hl => match us, hl with | [_, _, _], _ => rfl) (fun _ _ _ _ _ _ p v e => by cases e); exact ⟨_, fd, F, glo_ok X G (fa_at c 45), b1, b2⟩
theorem t_S_l_turned (X : K.In h) (G : h.Ns mainGlobals mg) (cx : obsX fb fnL fdL K = valX fnL fdL) : Src K mg "_law_turned" s_l_turned ["_law_span", "_law_mates_here", "_law_by"] := by
  have cc := saysX_a cx
  have c : fb K = true := says_b cc
  obtain ⟨fd, F⟩ := says_d cc 24; obtain ⟨b1, b2⟩ := two_of (ps := ["_law_span", "_law_mates_here", "_law_by"]) F (fun _ _ _ _ _ _ us hl => match us, hl with | [_, _, _], _ => rfl) (fun _ _ _ _ _ _ p v e => by cases e); exact ⟨_, fd, F, glo_ok X G (fa_at c 46), b1, b2⟩
theorem t_S_l_others (X : K.In h) (G : h.Ns mainGlobals mg) (cx : obsX fb fnL fdL K = valX fnL fdL) : Src K mg "_law_others" s_l_others ["_law_pot_here", "_law_span", "_law_mates_here", "_law_labels"] := by
  have cc := saysX_a cx
  have c : fb K = true := says_b cc
  obtain ⟨fd, F⟩ := says_d cc 25; obtain ⟨b1, b2⟩ := two_of (ps := ["_law_pot_here", "_law_span", "_law_mates_here", "_law_labels"]) F (fun _ _ _ _ _ _ us hl => match us, hl with | [_, _, _, _], _ => rfl) (fun _ _ _ _ _ _ p v e => by cases e); exact ⟨_, fd, F, glo_ok X G (fa_at c 47), b1, b2⟩
theorem t_S_l_reduced_right (X : K.In h) (G : h.Ns mainGlobals mg) (cx : obsX fb fnL fdL K = valX fnL fdL) : Src K mg "_law_reduced_right" s_l_reduced_right ["_law_made", "_law_span", "_law_mates_here", "_law_labels"] := by
  have cc := saysX_a cx
  have c : fb K = true := says_b cc
  obtain ⟨fd, F⟩ := says_d cc 26; obtain ⟨b1, b2⟩ := two_of (ps := ["_law_made", "_law_span", "_law_mates_here", "_law_labels"]) F (fun _ _ _ _ _ _ us hl => match us, hl with | [_, _, _, _], _ => rfl) (fun _ _ _ _ _ _ p v e => by cases e); exact ⟨_, fd, F, glo_ok X G (fa_at c 48), b1, b2⟩
theorem t_S_l_right (X : K.In h) (G : h.Ns mainGlobals mg) (cx : obsX fb fnL fdL K = valX fnL fdL) : Src K mg "_law_right" s_l_right ["_law_pot_here"] := by
  have cc := saysX_a cx
  have c : fb K = true := says_b cc
  obtain ⟨fd, F⟩ := says_d cc 27; obtain ⟨b1, b2⟩ := two_of (ps := ["_law_pot_here"]) F (fun _ _ _ _ _ _ us hl => match us, hl with | [_], _ => rfl) (fun _ _ _ _ _ _ p v e => by cases e; rfl); exact ⟨_, fd, F, glo_ok X G (fa_at c 49), b1, b2⟩
theorem t_S_law (X : K.In h) (G : h.Ns mainGlobals mg) (cx : obsX fb fnL fdL K = valX fnL fdL) : Src K mg "law" s_law ["_law_script"] := by
  have cc := saysX_a cx
  have c : fb K = true := says_b cc
  obtain ⟨fd, F⟩ := says_d cc 28; obtain ⟨b1, b2⟩ := two_of (ps := ["_law_script"]) F (fun _ _ _ _ _ _ us hl => match us, hl with | [_], _ => rfl) (fun _ _ _ _ _ _ p v e => by cases e; rfl); exact ⟨_, fd, F, glo_ok X G (fa_at c 50), b1, b2⟩
theorem t_g_Plan (X : K.In h) (G : h.Ns mainGlobals mg) (cx : obsX fb fnL fdL K = valX fnL fdL) : mg "Plan" = some (.ref (kp K)) := by
  have cc := saysX_a cx
  have c : fb K = true := says_b cc
  exact glo_ok X G (fa_at c 51)
theorem t_g_Made (X : K.In h) (G : h.Ns mainGlobals mg) (cx : obsX fb fnL fdL K = valX fnL fdL) : mg "Made" = some (.ref (He.ga K "Made")) := by
  have cc := saysX_a cx
  have c : fb K = true := says_b cc
  exact glo_ok X G (fa_at c 52)
theorem t_cls (X : K.In h) (G : h.Ns mainGlobals mg) (cx : obsX fb fnL fdL K = valX fnL fdL) : Cls K (kp K) := by
  have cc := saysX_a cx
  have c : fb K = true := says_b cc
  exact cls_ok (x := "Plan") (fa_at c 53)
theorem t_maker (X : K.In h) (G : h.Ns mainGlobals mg) (cx : obsX fb fnL fdL K = valX fnL fdL) : Mk K (kp K) (He.ma K (kp K) "__init__") := by
  have cc := saysX_a cx
  have c : fb K = true := says_b cc
  exact mkr_ok (x := "Plan") (fa_at c 54)
theorem t_cr (X : K.In h) (G : h.Ns mainGlobals mg) (cx : obsX fb fnL fdL K = valX fnL fdL) : ∃ mc, ClX.CRead K (kp K) mc ∧ (∃ u, ClX.CVal K (kp K) mc "MOST_PERIOD" (.int 500) u) := by
  have cc := saysX_a cx
  have c : fb K = true := says_b cc
  exact ⟨_, crd_ok (fb_at c 1), cvi_ok (fb_at c 2)⟩
theorem t_m_partners (X : K.In h) (G : h.Ns mainGlobals mg) (cx : obsX fb fnL fdL K = valX fnL fdL) : Meth K (kp K) "partners" (He.ma K (kp K) "partners") := by
  have cc := saysX_a cx
  have c : fb K = true := says_b cc
  exact meth_ok (x := "Plan") (m := "partners") (fa_at c 58)
theorem t_m_is_same (X : K.In h) (G : h.Ns mainGlobals mg) (cx : obsX fb fnL fdL K = valX fnL fdL) : Meth K (kp K) "is_same" (He.ma K (kp K) "is_same") := by
  have cc := saysX_a cx
  have c : fb K = true := says_b cc
  exact meth_ok (x := "Plan") (m := "is_same") (fa_at c 59)
theorem t_m_reduced (X : K.In h) (G : h.Ns mainGlobals mg) (cx : obsX fb fnL fdL K = valX fnL fdL) : Meth K (kp K) "reduced" (He.ma K (kp K) "reduced") := by
  have cc := saysX_a cx
  have c : fb K = true := says_b cc
  exact meth_ok (x := "Plan") (m := "reduced") (fa_at c 60)
theorem t_f___call__ (X : K.In h) (G : h.Ns mainGlobals mg) (cx : obsX fb fnL fdL K = valX fnL fdL) : PySem.W.findIn K (.ref (kp K)) "__call__" = some (some (.ref (He.ma K (kp K) "__call__"))) := by
  have cc := saysX_a cx
  have c : fb K = true := says_b cc
  exact (dun_ok (C := kp K) (m := "__call__") (fb_at c 4)).1
theorem t_i___call__ (X : K.In h) (G : h.Ns mainGlobals mg) (cx : obsX fb fnL fdL K = valX fnL fdL) : PySem.W.isFn K (.ref (He.ma K (kp K) "__call__")) = true := by
  have cc := saysX_a cx
  have c : fb K = true := says_b cc
  exact (dun_ok (C := kp K) (m := "__call__") (fb_at c 4)).2
theorem t_f___eq__ (X : K.In h) (G : h.Ns mainGlobals mg) (cx : obsX fb fnL fdL K = valX fnL fdL) : PySem.W.findIn K (.ref (kp K)) "__eq__" = some (some (.ref (He.ma K (kp K) "__eq__"))) := by
  have cc := saysX_a cx
  have c : fb K = true := says_b cc
  exact (dun_ok (C := kp K) (m := "__eq__") (fb_at c 5)).1
theorem t_i___eq__ (X : K.In h) (G : h.Ns mainGlobals mg) (cx : obsX fb fnL fdL K = valX fnL fdL) : PySem.W.isFn K (.ref (He.ma K (kp K) "__eq__")) = true := by
  have cc := saysX_a cx
  have c : fb K = true := says_b cc
  exact (dun_ok (C := kp K) (m := "__eq__") (fb_at c 5)).2
theorem t_f___repr__ (X : K.In h) (G : h.Ns mainGlobals mg) (cx : obsX fb fnL fdL K = valX fnL fdL) : PySem.W.findIn K (.ref (kp K)) "__repr__" = some (some (.ref (He.ma K (kp K) "__repr__"))) := by
  have cc := saysX_a cx
  have c : fb K = true := says_b cc
  exact (dun_ok (C := kp K) (m := "__repr__") (fb_at c 6)).1
theorem t_i___repr__ (X : K.In h) (G : h.Ns mainGlobals mg) (cx : obsX fb fnL fdL K = valX fnL fdL) : PySem.W.isFn K (.ref (He.ma K (kp K) "__repr__")) = true := by
  have cc := saysX_a cx
  have c : fb K = true := says_b cc
  exact (dun_ok (C := kp K) (m := "__repr__") (fb_at c 6)).2
theorem t_p_period (X : K.In h) (G : h.Ns mainGlobals mg) (cx : obsX fb fnL fdL K = valX fnL fdL) : ∃ p, PropOf K (kp K) "period" p (Pl.pr K "period") := by
  have cc := saysX_a cx
  have c : fb K = true := says_b cc
  exact ⟨_, prp_ok (C := kp K) (f := "period") (fb_at c 3)⟩
theorem t_co (X : K.In h) (G : h.Ns mainGlobals mg) (cx : obsX fb fnL fdL K = valX fnL fdL) : StX.CallO K (kp K) (He.ma K (kp K) "__call__") := by
  have cc := saysX_a cx
  have c : fb K = true := says_b cc
  exact call_ok (fb_at c 15)
theorem t_mcls (X : K.In h) (G : h.Ns mainGlobals mg) (cx : obsX fb fnL fdL K = valX fnL fdL) : Cls K (He.ga K "Made") := by
  have cc := saysX_a cx
  have c : fb K = true := says_b cc
  exact cls_ok (x := "Made") (fa_at c 55)
theorem t_mmk (X : K.In h) (G : h.Ns mainGlobals mg) (cx : obsX fb fnL fdL K = valX fnL fdL) : Mk K (He.ga K "Made") (He.ma K (He.ga K "Made") "__init__") := by
  have cc := saysX_a cx
  have c : fb K = true := says_b cc
  exact mkr_ok (x := "Made") (fa_at c 56)
theorem t_mno_rows (X : K.In h) (G : h.Ns mainGlobals mg) (cx : obsX fb fnL fdL K = valX fnL fdL) : NoAttr K (He.ga K "Made") "rows" := by
  have cc := saysX_a cx
  have c : fb K = true := says_b cc
  exact noat_ok (x := "Made") (f := "rows") (fa_at c 57)
theorem t_mM___init__ (X : K.In h) (G : h.Ns mainGlobals mg) (cx : obsX fb fnL fdL K = valX fnL fdL) : Ms K "__init__" "Made.__init__" s_Made___init (He.ma K (He.ga K "Made") "__init__") ["self", "rows"] := by
  have cc := saysX_a cx
  have c : fb K = true := says_b cc
  obtain ⟨fd, F⟩ := says_d cc 37; obtain ⟨b1, b2⟩ := two_of (ps := ["self", "rows"]) F (fun _ _ _ _ _ _ us hl => match us, hl with | [_, _], _ => rfl) (fun _ _ _ _ _ _ p v e => by cases e); exact ⟨fd, F, b1, b2, kw2_of F (fun _ _ _ _ _ _ a b u v e => by cases e; rfl), kw3_of F (fun _ _ _ _ _ _ s0 a b z u v e => by cases e)⟩
theorem t_mca (X : K.In h) (G : h.Ns mainGlobals mg) (cx : obsX fb fnL fdL K = valX fnL fdL) : PySem.W.findIn K (.ref (He.ga K "Made")) "__class__" = some (some (.builtin "object.__class__")) := by
  have cc := saysX_a cx
  have c : fb K = true := says_b cc
  exact eqO_ok (fb_at c 16)
theorem t_mmo (X : K.In h) (G : h.Ns mainGlobals mg) (cx : obsX fb fnL fdL K = valX fnL fdL) : PySem.W.mroIn K (He.ga K "Made") (.type "object") = some true := by
  have cc := saysX_a cx
  have c : fb K = true := says_b cc
  exact of_decide_eq_true (fb_at c 17)
theorem t_mkk (X : K.In h) (G : h.Ns mainGlobals mg) (cx : obsX fb fnL fdL K = valX fnL fdL) : PySem.W.kitOne K (.ref (He.ga K "Made")) (.ref (He.ga K "Made")) = some true := by
  have cc := saysX_a cx
  have c : fb K = true := says_b cc
  exact of_decide_eq_true (fb_at c 18)
theorem t_ne (X : K.In h) (G : h.Ns mainGlobals mg) (cx : obsX fb fnL fdL K = valX fnL fdL) : PySem.W.findIn K (.ref (kp K)) "__ne__" = some (some (.builtin "object.__ne__")) := by
  have cc := saysX_a cx
  have c : fb K = true := says_b cc
  exact eqO_ok (fb_at c 7)
theorem t_mo (X : K.In h) (G : h.Ns mainGlobals mg) (cx : obsX fb fnL fdL K = valX fnL fdL) : PySem.W.mroIn K (kp K) (.type "object") = some true := by
  have cc := saysX_a cx
  have c : fb K = true := says_b cc
  exact of_decide_eq_true (fb_at c 8)
theorem t_no_period (X : K.In h) (G : h.Ns mainGlobals mg) (cx : obsX fb fnL fdL K = valX fnL fdL) : NoAttr K (kp K) "_period" := by
  have cc := saysX_a cx
  have c : fb K = true := says_b cc
  exact noat_ok (x := "Plan") (f := "_period") (fa_at c 61)
theorem t_no_partners (X : K.In h) (G : h.Ns mainGlobals mg) (cx : obsX fb fnL fdL K = valX fnL fdL) : NoAttr K (kp K) "_partners" := by
  have cc := saysX_a cx
  have c : fb K = true := says_b cc
  exact noat_ok (x := "Plan") (f := "_partners") (fa_at c 62)
theorem t_M_period (X : K.In h) (G : h.Ns mainGlobals mg) (cx : obsX fb fnL fdL K = valX fnL fdL) : Ms K "period" "Plan.period" s_Plan_period (Pl.pr K "period") ["self"] := by
  have cc := saysX_a cx
  have c : fb K = true := says_b cc
  obtain ⟨fd, F⟩ := says_d cc 29; obtain ⟨b1, b2⟩ := two_of (ps := ["self"]) F (fun _ _ _ _ _ _ us hl => match us, hl with | [_], _ => rfl) (fun _ _ _ _ _ _ p v e => by cases e; rfl); exact ⟨fd, F, b1, b2, kw2_of F (fun _ _ _ _ _ _ a b u v e => by cases e), kw3_of F (fun _ _ _ _ _ _ s0 a b z u v e => by cases e)⟩
theorem t_M_partners (X : K.In h) (G : h.Ns mainGlobals mg) (cx : obsX fb fnL fdL K = valX fnL fdL) : Ms K "partners" "Plan.partners" s_Plan_partners (He.ma K (kp K) "partners") ["self"] := by
  have cc := saysX_a cx
  have c : fb K = true := says_b cc
  obtain ⟨fd, F⟩ := says_d cc 30; obtain ⟨b1, b2⟩ := two_of (ps := ["self"]) F (fun _ _ _ _ _ _ us hl => match us, hl with | [_], _ => rfl) (fun _ _ _ _ _ _ p v e => by cases e; rfl); exact ⟨fd, F, b1, b2, kw2_of F (fun _ _ _ _ _ _ a b u v e => by cases e), kw3_of F (fun _ _ _ _ _ _ s0 a b z u v e => by cases e)⟩
theorem t_M_is_same (X : K.In h) (G : h.Ns mainGlobals mg) (cx : obsX fb fnL fdL K = valX fnL fdL) : Ms K "is_same" "Plan.is_same" s_Plan_is_same (He.ma K (kp K) "is_same") ["self", "other"] := by
  have cc := saysX_a cx
  have c : fb K = true := says_b cc
  obtain ⟨fd, F⟩ := says_d cc 31; obtain ⟨b1, b2⟩ := two_of (ps := ["self", "other"]) F (fun _ _ _ _ _ _ us hl => match us, hl with | [_, _], _ => rfl) (fun _ _ _ _ _ _ p v e => by cases e); exact ⟨fd, F, b1, b2, kw2_of F (fun _ _ _ _ _ _ a b u v e => by cases e; rfl), kw3_of F (fun _ _ _ _ _ _ s0 a b z u v e => by cases e)⟩
theorem t_M_reduced (X : K.In h) (G : h.Ns mainGlobals mg) (cx : obsX fb fnL fdL K = valX fnL fdL) : Ms K "reduced" "Plan.reduced" s_Plan_reduced (He.ma K (kp K) "reduced") ["self"] := by
  have cc := saysX_a cx
  have c : fb K = true := says_b cc
  obtain ⟨fd, F⟩ := says_d cc 32; obtain ⟨b1, b2⟩ := two_of (ps := ["self"]) F (fun _ _ _ _ _ _ us hl => match us, hl with | [_], _ => rfl) (fun _ _ _ _ _ _ p v e => by cases e; rfl); exact ⟨fd, F, b1, b2, kw2_of F (fun _ _ _ _ _ _ a b u v e => by cases e), kw3_of F (fun _ _ _ _ _ _ s0 a b z u v e => by cases e)⟩
theorem t_M___call__ (X : K.In h) (G : h.Ns mainGlobals mg) (cx : obsX fb fnL fdL K = valX fnL fdL) : Ms K "__call__" "Plan.__call__" s_Plan___call (He.ma K (kp K) "__call__") ["self", "x", "name"] := by
  have cc := saysX_a cx
  have c : fb K = true := says_b cc
  obtain ⟨fd, F⟩ := says_d cc 33; obtain ⟨b1, b2⟩ := two_of (ps := ["self", "x", "name"]) F (fun _ _ _ _ _ _ us hl => match us, hl with | [_, _, _], _ => rfl) (fun _ _ _ _ _ _ p v e => by cases e); exact ⟨fd, F, b1, b2, kw2_of F (fun _ _ _ _ _ _ a b u v e => by cases e), kw3_of F (fun _ _ _ _ _ _ s0 a b z u v e => by cases e; rfl)⟩
theorem t_M___eq__ (X : K.In h) (G : h.Ns mainGlobals mg) (cx : obsX fb fnL fdL K = valX fnL fdL) : Ms K "__eq__" "Plan.__eq__" s_Plan___eq (He.ma K (kp K) "__eq__") ["self", "other"] := by
  have cc := saysX_a cx
  have c : fb K = true := says_b cc
  obtain ⟨fd, F⟩ := says_d cc 34; obtain ⟨b1, b2⟩ := two_of (ps := ["self", "other"]) F (fun _ _ _ _ _ _ us hl => match us, hl with | [_, _], _ => rfl) (fun _ _ _ _ _ _ p v e => by cases e); exact ⟨fd, F, b1, b2, kw2_of F (fun _ _ _ _ _ _ a b u v e => by cases e; rfl), kw3_of F (fun _ _ _ _ _ _ s0 a b z u v e => by cases e)⟩
theorem t_M___repr__ (X : K.In h) (G : h.Ns mainGlobals mg) (cx : obsX fb fnL fdL K = valX fnL fdL) : Ms K "__repr__" "Plan.__repr__" s_Plan___repr (He.ma K (kp K) "__repr__") ["self"] := by
  have cc := saysX_a cx
  have c : fb K = true := says_b cc
  obtain ⟨fd, F⟩ := says_d cc 35; obtain ⟨b1, b2⟩ := two_of (ps := ["self"]) F (fun _ _ _ _ _ _ us hl => match us, hl with | [_], _ => rfl) (fun _ _ _ _ _ _ p v e => by cases e; rfl); exact ⟨fd, F, b1, b2, kw2_of F (fun _ _ _ _ _ _ a b u v e => by cases e), kw3_of F (fun _ _ _ _ _ _ s0 a b z u v e => by cases e)⟩
theorem t_M___init__ (X : K.In h) (G : h.Ns mainGlobals mg) (cx : obsX fb fnL fdL K = valX fnL fdL) : Ms K "__init__" "Plan.__init__" s_Plan___init (He.ma K (kp K) "__init__") ["self", "period", "partners"] := by
  have cc := saysX_a cx
  have c : fb K = true := says_b cc
  obtain ⟨fd, F⟩ := says_d cc 36; obtain ⟨b1, b2⟩ := two_of (ps := ["self", "period", "partners"]) F (fun _ _ _ _ _ _ us hl => match us, hl with | [_, _, _], _ => rfl) (fun _ _ _ _ _ _ p v e => by cases e); exact ⟨fd, F, b1, b2, kw2_of F (fun _ _ _ _ _ _ a b u v e => by cases e), kw3_of F (fun _ _ _ _ _ _ s0 a b z u v e => by cases e; rfl)⟩
theorem t_kt (X : K.In h) (G : h.Ns mainGlobals mg) (cx : obsX fb fnL fdL K = valX fnL fdL) : ∀ n ∈ Ty7, PySem.W.kitOne K (.type n) (.ref (kp K)) = some false ∧ PySem.W.kitOne K (.ref (kp K)) (.type n) = some false ∧ PySem.W.notFirst K (kp K) (.type n) = true := by
  have cc := saysX_a cx
  have c : fb K = true := says_b cc
  exact kt_ok (fb_at c 9)
theorem t_km (X : K.In h) (G : h.Ns mainGlobals mg) (cx : obsX fb fnL fdL K = valX fnL fdL) : ∀ n ∈ Ty7, PySem.W.kitOne K (.type n) (.ref (He.ga K "Made")) = some false := by
  have cc := saysX_a cx
  have c : fb K = true := says_b cc
  exact km_ok (fb_at c 10)
theorem t_kk (X : K.In h) (G : h.Ns mainGlobals mg) (cx : obsX fb fnL fdL K = valX fnL fdL) : PySem.W.kitOne K (.ref (kp K)) (.ref (kp K)) = some true := by
  have cc := saysX_a cx
  have c : fb K = true := says_b cc
  exact of_decide_eq_true (fb_at c 11)
theorem t_ca (X : K.In h) (G : h.Ns mainGlobals mg) (cx : obsX fb fnL fdL K = valX fnL fdL) : PySem.W.findIn K (.ref (kp K)) "__class__" = some (some (.builtin "object.__class__")) := by
  have cc := saysX_a cx
  have c : fb K = true := says_b cc
  exact eqO_ok (fb_at c 12)
theorem t_cn (X : K.In h) (G : h.Ns mainGlobals mg) (cx : obsX fb fnL fdL K = valX fnL fdL) : PySem.W.specialIn K (.builtin "object.__class__") "__get__" = some (some (.builtin "getset_descriptor.__get__")) := by
  have cc := saysX_a cx
  have c : fb K = true := says_b cc
  exact of_decide_eq_true (fb_at c 13)
theorem t_ct (X : K.In h) (G : h.Ns mainGlobals mg) (cx : obsX fb fnL fdL K = valX fnL fdL) : PySem.W.takesIn K (.builtin "object.__class__") = some true := by
  have cc := saysX_a cx
  have c : fb K = true := says_b cc
  exact of_decide_eq_true (fb_at c 14)
theorem txt (X : K.In h) (G : h.Ns mainGlobals mg) (cx : obsX fb fnL fdL K = valX fnL fdL) : Txt K mg := {
    n_len := t_n_len X G cx,
    n_int := t_n_int X G cx,
    n_abs := t_n_abs X G cx,
    n_max := t_n_max X G cx,
    n_min := t_n_min X G cx,
    n_divmod := t_n_divmod X G cx,
    n_isinstance := t_n_isinstance X G cx,
    n_bool := t_n_bool X G cx,
    n_str := t_n_str X G cx,
    n_repr := t_n_repr X G cx,
    n_range := t_n_range X G cx,
    n_all := t_n_all X G cx,
    n_any := t_n_any X G cx,
    n_tuple := t_n_tuple X G cx,
    n_list := t_n_list X G cx,
    n_sorted := t_n_sorted X G cx,
    n_dict := t_n_dict X G cx,
    n_enumerate := t_n_enumerate X G cx,
    n_ValueError := t_n_ValueError X G cx,
    n_LookupError := t_n_LookupError X G cx,
    c_MOST_LETTERS := t_c_MOST_LETTERS X G cx,
    c_FARTHEST := t_c_FARTHEST X G cx,
    S_is_integer := t_S_is_integer X G cx,
    S_is_count := t_S_is_count X G cx,
    S_is_name := t_S_is_name X G cx,
    S_is_period := t_S_is_period X G cx,
    S_is_remainder := t_S_is_remainder X G cx,
    S_is_partner := t_S_is_partner X G cx,
    S_leads_back := t_S_leads_back X G cx,
    S_is_partners := t_S_is_partners X G cx,
    S_in_sequence := t_S_in_sequence X G cx,
    S_check_column := t_S_check_column X G cx,
    S_comes_again := t_S_comes_again X G cx,
    S_least_step := t_S_least_step X G cx,
    S_l_pot := t_S_l_pot X G cx,
    S_l_draw := t_S_l_draw X G cx,
    S_l_pick := t_S_l_pick X G cx,
    S_l_named := t_S_l_named X G cx,
    S_l_mates := t_S_l_mates X G cx,
    S_l_mate := t_S_l_mate X G cx,
    S_l_longer := t_S_l_longer X G cx,
    S_l_comes_again := t_S_l_comes_again X G cx,
    S_l_least := t_S_l_least X G cx,
    S_l_common := t_S_l_common X G cx,
    S_l_are_same := t_S_l_are_same X G cx,
    S_l_less := t_S_l_less X G cx,
    S_l_turned := t_S_l_turned X G cx,
    S_l_others := t_S_l_others X G cx,
    S_l_reduced_right := t_S_l_reduced_right X G cx,
    S_l_right := t_S_l_right X G cx,
    S_law := t_S_law X G cx,
    g_Plan := t_g_Plan X G cx,
    g_Made := t_g_Made X G cx,
    cls := t_cls X G cx,
    maker := t_maker X G cx,
    cr := t_cr X G cx,
    m_partners := t_m_partners X G cx,
    m_is_same := t_m_is_same X G cx,
    m_reduced := t_m_reduced X G cx,
    f___call__ := t_f___call__ X G cx,
    i___call__ := t_i___call__ X G cx,
    f___eq__ := t_f___eq__ X G cx,
    i___eq__ := t_i___eq__ X G cx,
    f___repr__ := t_f___repr__ X G cx,
    i___repr__ := t_i___repr__ X G cx,
    p_period := t_p_period X G cx,
    co := t_co X G cx,
    mcls := t_mcls X G cx,
    mmk := t_mmk X G cx,
    mno_rows := t_mno_rows X G cx,
    mM___init__ := t_mM___init__ X G cx,
    mca := t_mca X G cx,
    mmo := t_mmo X G cx,
    mkk := t_mkk X G cx,
    ne := t_ne X G cx,
    mo := t_mo X G cx,
    no_period := t_no_period X G cx,
    no_partners := t_no_partners X G cx,
    M_period := t_M_period X G cx,
    M_partners := t_M_partners X G cx,
    M_is_same := t_M_is_same X G cx,
    M_reduced := t_M_reduced X G cx,
    M___call__ := t_M___call__ X G cx,
    M___eq__ := t_M___eq__ X G cx,
    M___repr__ := t_M___repr__ X G cx,
    M___init__ := t_M___init__ X G cx,
    kt := t_kt X G cx,
    km := t_km X G cx,
    kk := t_kk X G cx,
    ca := t_ca X G cx,
    cn := t_cn X G cx,
    ct := t_ct X G cx }
end
end K63

set_option Elab.async false
set_option linter.all false
set_option maxRecDepth 100000
namespace Sgn
open PySem PyProof.Rows
/-- the letters from a to z, as numbers -/
def abc : List Nat := (List.range 26).map (· + 97)
/-- a text's signs by the three questions -/
def signB (z : Str) : Bool := PySem.Txt.isascii z && (PySem.Txt.isalpha z && PySem.Txt.islower z)
theorem one : ∀ c, c < 128 → (Unicode.isAlpha c && !(Unicode.isUpper c || Unicode.isTitle c)) = decide (c ∈ abc) := by decide +kernel
theorem low : ∀ c, c < 128 → c ∈ abc → Unicode.isLower c = true := by decide +kernel
theorem below : ∀ c ∈ abc, c < 128 := by decide +kernel
theorem all_at {z : Str} {f : Nat → Bool} (h : z.cps.all f = true) {c : Nat} (hc : c ∈ z.cps.toList) : f c = true := by
  rw [← Array.all_toList] at h
  exact List.all_eq_true.mp h c hc
theorem signs_all {z : Str} (h : ∀ c ∈ z.cps.toList, c ∈ abc) (n : 1 ≤ z.length) : signB z = true := by
  have a1 : PySem.Txt.isascii z = true := by
    unfold PySem.Txt.isascii
    rw [← Array.all_toList, List.all_eq_true]
    exact fun c hc => decide_eq_true (below c (h c hc))
  have o := fun c (hc : c ∈ z.cps.toList) => (one c (below c (h c hc))).trans (decide_eq_true (h c hc))
  have a2 : PySem.Txt.isalpha z = true := by
    unfold PySem.Txt.isalpha
    rw [Bool.and_eq_true, ← Array.all_toList, List.all_eq_true]
    exact ⟨decide_eq_true (by omega), fun c hc => (Bool.and_eq_true _ _ ▸ o c hc : _ ∧ _).1⟩
  have a3 : PySem.Txt.islower z = true := by
    unfold PySem.Txt.islower
    rw [Bool.and_eq_true, ← Array.any_toList, ← Array.any_toList, List.any_eq_true]
    have hl : 0 < z.cps.toList.length := by rw [Array.length_toList]; exact n
    refine ⟨⟨z.cps.toList[0], List.getElem_mem hl, low _ (below _ (h _ (List.getElem_mem hl))) (h _ (List.getElem_mem hl))⟩, ?_⟩
    rw [Bool.not_eq_true', List.any_eq_false]
    intro c hc q
    have := (Bool.and_eq_true _ _ ▸ o c hc : _ ∧ _).2
    rw [q] at this
    cases this
  unfold signB
  rw [a1, a2, a3]; rfl
theorem signs_in {z : Str} (h : signB z = true) : ∀ c ∈ z.cps.toList, c ∈ abc := by
  intro c hc
  have h1 : PySem.Txt.isascii z = true := (Bool.and_eq_true _ _ ▸ h : _ ∧ _).1
  have h2 : (PySem.Txt.isalpha z && PySem.Txt.islower z) = true := (Bool.and_eq_true _ _ ▸ h : _ ∧ _).2
  have h3 : PySem.Txt.isalpha z = true := (Bool.and_eq_true _ _ ▸ h2 : _ ∧ _).1
  have h4 : PySem.Txt.islower z = true := (Bool.and_eq_true _ _ ▸ h2 : _ ∧ _).2
  have l : c < 128 := of_decide_eq_true (all_at h1 hc)
  have h5 : z.cps.all Unicode.isAlpha = true := (Bool.and_eq_true _ _ ▸ h3 : _ ∧ _).2
  have h6 : (!z.cps.any fun c => Unicode.isUpper c || Unicode.isTitle c) = true := (Bool.and_eq_true _ _ ▸ h4 : _ ∧ _).2
  have h7 : (Unicode.isUpper c || Unicode.isTitle c) = false := by
    rw [Bool.not_eq_true', ← Array.any_toList, List.any_eq_false] at h6
    exact Bool.eq_false_iff.mpr (h6 c hc)
  have := one c l
  rw [all_at h5 hc, h7] at this
  exact of_decide_eq_true this.symm
/-- the same, sign by sign -/
theorem signs_eq {z : Str} (n : 1 ≤ z.length) : signB z = ((List.range z.cps.size).map fun i => decide (z.cps.getD i 0 ∈ abc)).all id := by
  have at' : ∀ i, i < z.cps.size → z.cps.getD i 0 ∈ z.cps.toList := fun i hi => by
    rw [Array.getD_eq_getD_getElem?, Array.getElem?_eq_getElem hi]
    exact Array.getElem_mem_toList hi
  by_cases h : ∀ c ∈ z.cps.toList, c ∈ abc
  · rw [signs_all h n]
    symm
    rw [List.all_eq_true]
    intro b hb
    obtain ⟨i, hi, rfl⟩ := List.mem_map.mp hb
    exact decide_eq_true (h _ (at' i (List.mem_range.mp hi)))
  · have e : signB z = false := Bool.eq_false_iff.mpr fun q => h (signs_in q)
    rw [e]
    symm
    rw [Bool.eq_false_iff]
    intro q
    rw [List.all_eq_true] at q
    refine h fun c hc => ?_
    obtain ⟨i, hi, e⟩ := List.getElem_of_mem hc
    rw [Array.length_toList] at hi
    have := q _ (List.mem_map.mpr ⟨i, List.mem_range.mpr hi, rfl⟩)
    have := of_decide_eq_true this
    rw [Array.getD_eq_getD_getElem?, Array.getElem?_eq_getElem hi] at this
    rw [← e]
    exact this
end Sgn

set_option Elab.async false
set_option linter.all false
set_option maxRecDepth 100000
set_option maxHeartbeats 4000000
namespace K63
open PySem L2 Lay Own
local macro_rules | `(tactic| walk_at "ne") => `(tactic| first | assumption | (apply Ne.symm; assumption) | exact ne_of_none (by walk_at "look") (by assumption) | exact (ne_of_none (by walk_at "look") (by assumption)).symm)
local macro_rules | `(tactic| walk_at "look") => `(tactic| first | assumption | exact upd_same | (refine Eq.trans (upd_ne ?_) ?_; walk_at "ne"; walk_at "look"))
local macro_rules | `(tactic| walk_at "rds") => `(tactic| first | rfl | assumption | walk_at "look" | exact SqL.of (by walk_at "look") | exact SqT.of (by walk_at "look") | exact Or.inl (SqL.of (by walk_at "look")) | exact Or.inl (by assumption) | decide | omega | exact Nat.le_of_ble_eq_true rfl | exact Or.inr ⟨by decide, by decide⟩ | exact Or.inl ⟨by omega, by omega⟩ | exact ⟨by decide, by decide⟩)
local macro_rules | `(tactic| walk_at "rd1") => `(tactic| first | (apply Exists.intro) | (refine And.intro ?_ ?_; walk_at "rds") | (refine Or.inl ?_; apply Exists.intro; refine And.intro ?_ ?_; rfl))
local macro_rules | `(tactic| walk_at "rd") => `(tactic| repeat walk_at "rd1")
def letters : Str := "abcdefghijklmnopqrstuvwxyz"
def lets (z : Str) : List Bool := (List.range z.cps.size).map fun i => decide (z.cps.getD i 0 ∈ letters.cps.toList)
def nameB (z : Str) : Bool := (decide (1 ≤ (z.length : Int)) && decide ((z.length : Int) ≤ 8)) && (lets z).all id
def isI : V → Bool
  | .int _ => true
  | .bl _ => true
  | _ => false
def isB : V → Bool
  | .bl _ => true
  | _ => false
def isS : V → Bool
  | .str _ => true
  | _ => false
def dueI : V → Bool
  | .int _ => true
  | _ => false
def dB : V → Bool
  | .int i => decide (-20 ≤ i) && decide (i ≤ 20)
  | _ => false
def nB : V → Bool
  | .str z => nameB z
  | _ => false
theorem Txt.gs {K : PySem.W.Frag} {mg : Str → Option Value} (T : Txt K mg) : Exv.Gs K := ⟨T.cn, T.ct⟩
/-- the things that may be asked about -/
inductive It (K : PySem.W.Frag) (H : Hp) : V → Prop where
  | int (i : Int) : It K H (.int i)
  | str (z : Str) (h : z.length ≤ 100000) : It K H (.str z)
  | non : It K H .non
  | bl (b : Bool) : It K H (.bl b)
  | lst {a : Addr} {xs : List V} (h : H a = some (.lst xs)) : It K H (.ref a)
  | tup {a : Addr} {xs : List V} (h : H a = some (.tup xs)) : It K H (.ref a)
  | dct {a : Addr} {kvs : List (Key × V)} (h : H a = some (.dK kvs)) : It K H (.ref a)
  | own {a dx : Addr} {fs : List (Str × V)} (h : H a = some (.ins (kp K) dx fs)) : It K H (.ref a)
section
variable {K : PySem.W.Frag} {mg : Str → Option Value} {H H' : Hp} {x : V}
theorem It.same (h : It K H x) (e : L2.Same H H') : It K H' x := by
  cases h with
  | int i => exact .int i
  | str z h => exact .str z h
  | non => exact .non
  | bl b => exact .bl b
  | lst h => exact .lst (e _ _ h)
  | tup h => exact .tup (e _ _ h)
  | dct h => exact .dct (e _ _ h)
  | own h => exact .own (e _ _ h)
theorem own_ty (T : Txt K mg) {a dx : Addr} {fs : List (Str × V)} (h : H a = some (.ins (kp K) dx fs)) : TyX K H (.ref a) (.ref (kp K)) := .base (.ins h T.cls T.ca T.cn T.ct T.mo)
/-- what isinstance says of them -/
theorem It.isi (T : Txt K mg) (h : It K H x) : ∃ t, Exv.TyE K H x t ∧ PySem.W.kitOne K t (.type "int") = some (isI x) ∧ PySem.W.kitOne K t (.type "bool") = some (isB x) ∧ PySem.W.kitOne K t (.type "str") = some (isS x) := by
  cases h with
  | int i => exact ⟨_, .base (.base (.int i)), kit_ty (show kitB "int" "int" = some true from by decide +kernel), kit_ty (show kitB "int" "bool" = some false from by decide +kernel), kit_ty (show kitB "int" "str" = some false from by decide +kernel)⟩
  | str z h => exact ⟨_, .base (.base (.str z)), kit_ty (show kitB "str" "int" = some false from by decide +kernel), kit_ty (show kitB "str" "bool" = some false from by decide +kernel), kit_ty (show kitB "str" "str" = some true from by decide +kernel)⟩
  | non => exact ⟨_, .base (.base .non), kit_ty (show kitB "NoneType" "int" = some false from by decide +kernel), kit_ty (show kitB "NoneType" "bool" = some false from by decide +kernel), kit_ty (show kitB "NoneType" "str" = some false from by decide +kernel)⟩
  | bl b => exact ⟨_, .base (.base (.bl b)), kit_ty (show kitB "bool" "int" = some true from by decide +kernel), kit_ty (show kitB "bool" "bool" = some true from by decide +kernel), kit_ty (show kitB "bool" "str" = some false from by decide +kernel)⟩
  | lst h => exact ⟨_, .base (.base (.lst h)), kit_ty (show kitB "list" "int" = some false from by decide +kernel), kit_ty (show kitB "list" "bool" = some false from by decide +kernel), kit_ty (show kitB "list" "str" = some false from by decide +kernel)⟩
  | tup h => exact ⟨_, .base (.base (.tup h)), kit_ty (show kitB "tuple" "int" = some false from by decide +kernel), kit_ty (show kitB "tuple" "bool" = some false from by decide +kernel), kit_ty (show kitB "tuple" "str" = some false from by decide +kernel)⟩
  | dct h => exact ⟨_, .base (.base (.dK h)), kit_ty (show kitB "dict" "int" = some false from by decide +kernel), kit_ty (show kitB "dict" "bool" = some false from by decide +kernel), kit_ty (show kitB "dict" "str" = some false from by decide +kernel)⟩
  | own h => exact ⟨_, .base (own_ty T h), (T.kt "int" (by simp [Ty7])).2.1, (T.kt "bool" (by simp [Ty7])).2.1, (T.kt "str" (by simp [Ty7])).2.1⟩
theorem tup_isi (h : H (a : Addr) = some (.tup xs)) : ∃ t, Exv.TyE K H (.ref a) t ∧ PySem.W.kitOne K t (.type "tuple") = some true := ⟨_, .base (.base (.tup h)), kit_ty (show kitB "tuple" "tuple" = some true from by decide +kernel)⟩
/-- no tuple -/
theorem It.notT (T : Txt K mg) (h : It K H x) (n : ∀ a xs, x = .ref a → H a = some (.tup xs) → False) : ∃ t, Exv.TyE K H x t ∧ PySem.W.kitOne K t (.type "tuple") = some false := by
  cases h with
  | int i => exact ⟨_, .base (.base (.int i)), kit_ty (show kitB "int" "tuple" = some false from by decide +kernel)⟩
  | str z h => exact ⟨_, .base (.base (.str z)), kit_ty (show kitB "str" "tuple" = some false from by decide +kernel)⟩
  | non => exact ⟨_, .base (.base .non), kit_ty (show kitB "NoneType" "tuple" = some false from by decide +kernel)⟩
  | bl b => exact ⟨_, .base (.base (.bl b)), kit_ty (show kitB "bool" "tuple" = some false from by decide +kernel)⟩
  | lst h => exact ⟨_, .base (.base (.lst h)), kit_ty (show kitB "list" "tuple" = some false from by decide +kernel)⟩
  | tup h => exact (n _ _ rfl h).elim
  | dct h => exact ⟨_, .base (.base (.dK h)), kit_ty (show kitB "dict" "tuple" = some false from by decide +kernel)⟩
  | own h => exact ⟨_, .base (own_ty T h), (T.kt "tuple" (by simp [Ty7])).2.1⟩
end
section
variable {P : Program} {w : World} {K : PySem.W.Frag} {mg : Str → Option Value} {base : Heap}
def spIsI (K : PySem.W.Frag) : Sp := fun vs H Q _ => ∃ x, vs = [x] ∧ It K H x ∧ Q (.bl (dueI x)) H
def spIsN (K : PySem.W.Frag) : Sp := fun vs H Q _ => ∃ x, vs = [x] ∧ It K H x ∧ ∀ H', L2.Same H H' → Q (.bl (nB x)) H'
theorem d_is_integer (T : Txt K mg) : Df P w K mg base 1 "is_integer" ["value"] (spIsI K) := by
  refine T.S_is_integer.by sc_is_integer (fun vs H Q E h => ?_) (fun f cdv A outer s H vs Q E hr hgd h => ?_)
  · obtain ⟨x, rfl, _⟩ := h; rfl
  · obtain ⟨x, rfl, hx, k⟩ := h
    refine ⟨_, (pss_one (ps_ret (pe_and (pe_callB (Exv.call_isE T.gs) (by rfl) T.n_isinstance (by decide +kernel) (pa_cons (pv 0) (pa_cons (pe_bltn (v := .ty "int") (u := .type "int") (by rfl) T.n_int (by decide +kernel) rfl) pa_nil))) (pe_one (pe_not (pe_callB (Exv.call_isE T.gs) (by rfl) T.n_isinstance (by decide +kernel) (pa_cons (pv 0) (pa_cons (pe_bltn (v := .ty "bool") (u := .type "bool") (by rfl) T.n_bool (by decide +kernel) rfl) pa_nil)))))))), ?_⟩
    obtain ⟨t, ty, k1, k2, k3⟩ := hx.isi T
    refine ⟨_, rfl, x, .ty "int", t, .type "int", _, rfl, .ty _, ty, k1, _, rfl, ?_⟩
    refine ite2 (fun c => ?_) (fun c => ?_)
    · refine ⟨_, rfl, x, .ty "bool", t, .type "bool", _, rfl, .ty _, ty, k2, _, rfl, ?_⟩
      have e : (!isB x) = dueI x := by cases hx <;> first | rfl | cases c
      show Q (.bl (!isB x)) H
      rw [e]; exact k
    · have e : false = dueI x := by cases hx <;> first | rfl | exact absurd rfl c
      show Q (.bl false) H
      rw [e]; exact k
theorem d_is_name (T : Txt K mg) : Df P w K mg base 1 "is_name" ["value"] (spIsN K) := by
  refine T.S_is_name.by sc_is_name (fun vs H Q E h => ?_) (fun f cdv A outer s H vs Q E hr hgd h => ?_)
  · obtain ⟨x, rfl, _⟩ := h; rfl
  · obtain ⟨x, rfl, hx, k⟩ := h
    refine ⟨_, (pss_cons (ps_if (PW.pt (pw_or (pt_not (pt_val (pe_callB (Exv.call_isE T.gs) (by rfl) T.n_isinstance (by decide +kernel) (pa_cons (pv 0) (pa_cons (pe_bltn (v := .ty "str") (u := .type "str") (by rfl) T.n_str (by decide +kernel) rfl) pa_nil))))) (pw_or (pt_cmpR op_lt (pe_callB call_len_str (by rfl) T.n_len PySem.boot_len (pa_cons (pv 0) pa_nil)) pe_int (nomark _)) (pw_or1 (pt_cmpR op_gt (pe_callB call_len_str (by rfl) T.n_len PySem.boot_len (pa_cons (pv 0) pa_nil)) (pe_con1 T.c_MOST_LETTERS) (nomark _)))))) (pss_one (ps_ret pe_bl)) pss_nil)
      (pss_one (ps_ret (pe_and (pe_bm0 PySem.F.plainAttrs_str PySem.F.slot_str_isascii PySem.F.type_str_isascii mt_isascii (pv 0)) (pe_and (pe_bm0 PySem.F.plainAttrs_str PySem.F.slot_str_isalpha PySem.F.type_str_isalpha mt_isalpha (pv 0)) (pe_one (pe_bm0 PySem.F.plainAttrs_str PySem.F.slot_str_islower PySem.F.type_str_islower mt_islower (pv 0)))))))), ?_⟩
    obtain ⟨t, ty, k1, k2, k3⟩ := hx.isi T
    refine ⟨_, rfl, x, .ty "str", t, .type "str", _, rfl, .ty _, ty, k3, _, rfl, ?_⟩
    have no : isS x = false → nB x = false := fun e => by cases hx <;> first | rfl | cases e
    by_cases hs : isS x = true
    · rw [hs]
      cases hx with
      | str z h10 =>
        refine iteF ?_
        have zl : z.length ≤ sizeLine := Nat.le_trans h10 (by decide)
        refine ⟨_, rfl, z, rfl, zl, _, _, rfl, rfl, _, rfl, ?_⟩
        refine ite2 (fun c => ?_) (fun c => ?_)
        · refine iteT ?_
          have c1 := of_decide_eq_true c
          have e : nB (.str z) = false := by
            show nameB z = false
            unfold nameB
            rw [decide_eq_false (show ¬ 1 ≤ (z.length : Int) by omega)]
            rfl
          have q := k H (L2.Same.refl H)
          rw [e] at q
          exact q
        · have c1 : ¬ ((z.length : Int) < 1) := fun z => c (decide_eq_true z)
          refine ⟨_, rfl, z, rfl, zl, _, _, rfl, rfl, _, rfl, ?_⟩
          refine ite2 (fun c => ?_) (fun c => ?_)
          · have c2 := of_decide_eq_true c
            have e : nB (.str z) = false := by
              show nameB z = false
              unfold nameB
              rw [decide_eq_false (show ¬ (z.length : Int) ≤ 8 by omega), Bool.and_false]
              rfl
            have q := k H (L2.Same.refl H)
            rw [e] at q
            exact q
          · have c2 : ¬ ((8 : Int) < (z.length : Int)) := fun z => c (decide_eq_true z)
            have e : nB (.str z) = Sgn.signB z := by
              rw [Sgn.signs_eq (by omega)]
              show nameB z = _
              unfold nameB
              rw [decide_eq_true (show 1 ≤ (z.length : Int) by omega), decide_eq_true (show (z.length : Int) ≤ 8 by omega)]
              rfl
            have q := k H (L2.Same.refl H)
            rw [e] at q
            unfold Sgn.signB at q
            refine ⟨_, rfl, rfl, z, rfl, rfl, trivial, _, rfl, ?_⟩
            cases a1 : PySem.Txt.isascii z with
            | false => rw [a1] at q; exact iteF q
            | true =>
              rw [a1] at q
              refine iteT ⟨_, rfl, rfl, z, rfl, rfl, trivial, _, rfl, ?_⟩
              cases a2 : PySem.Txt.isalpha z with
              | false => rw [a2] at q; exact iteF q
              | true =>
                rw [a2] at q
                exact iteT ⟨_, rfl, rfl, z, rfl, rfl, trivial, q⟩
      | _ => cases hs
    · have hs' : isS x = false := Bool.eq_false_iff.mpr hs
      rw [hs']
      refine iteT (iteT ?_)
      have q := k H (L2.Same.refl H)
      rw [no hs'] at q
      exact q
end
end K63

set_option Elab.async false
set_option linter.all false
set_option maxRecDepth 100000
set_option maxHeartbeats 4000000
namespace K63
open PySem L2 Lay Own SrtO
local macro_rules | `(tactic| walk_at "ne") => `(tactic| first | assumption | (apply Ne.symm; assumption) | exact ne_of_none (by walk_at "look") (by assumption) | exact (ne_of_none (by walk_at "look") (by assumption)).symm)
local macro_rules | `(tactic| walk_at "look") => `(tactic| first | assumption | exact upd_same | (refine Eq.trans (upd_ne ?_) ?_; walk_at "ne"; walk_at "look"))
local macro_rules | `(tactic| walk_at "rds") => `(tactic| first | rfl | assumption | walk_at "look" | exact SqL.of (by walk_at "look") | exact SqT.of (by walk_at "look") | exact Or.inl (SqL.of (by walk_at "look")) | exact Or.inl (by assumption) | decide | omega | exact Nat.le_of_ble_eq_true rfl | exact Or.inr ⟨by decide, by decide⟩ | exact Or.inl ⟨by omega, by omega⟩ | exact ⟨by decide, by decide⟩)
local macro_rules | `(tactic| walk_at "rd1") => `(tactic| first | (apply Exists.intro) | (refine And.intro ?_ ?_; walk_at "rds") | (refine Or.inl ?_; apply Exists.intro; refine And.intro ?_ ?_; rfl))
local macro_rules | `(tactic| walk_at "rd") => `(tactic| repeat walk_at "rd1")
section
variable {P : Program} {w : World} {K : PySem.W.Frag} {mg : Str → Option Value} {base : Heap}
theorem d_draw (T : Txt K mg) : Df P w K mg base 1 "_law_draw" ["_law_pot_here", "_law_lot"] spDraw := by
  refine draw_up (T.S_l_draw.by sc_l_draw (fun vs H Q E h => ?_) (fun f cdv A outer s H vs Q E hr hgd h => ?_)) rfl
  · obtain ⟨p, m, a, b, rfl, _⟩ := h; rfl
  · obtain ⟨p, m, a, b, rfl, hp, b0, b1, m0, m1, k⟩ := h
    refine ⟨_, (pss_cons (ps_if (pt_cmpR op_gt (pe_ix ix_list (pv 0) pe_int (fun _ _ => rfl)) pe_int (nomark _)) (pss_cons (ps_asg (pe_callB call_divmodW (by rfl) T.n_divmod (by decide +kernel) (pa_cons (pe_ix ix_list (pv 0) pe_int (fun _ _ => rfl)) (pa_cons (pv 1) pa_nil))) (pg_tup rfl (pgs_cons (pg_sub (pv 0) pe_int set_list) (pgs_cons (pg_name (i := 2) sc_l_draw.nd rfl (by first | exact Or.inl rfl | exact Or.inr rfl)) pgs_nil))))
      (pss_one (ps_ret (pv 2)))) pss_nil)
      (pss_cons (ps_asg (pe_op op_mod (pe_callTy call_int1 (by rfl) T.n_int (by decide +kernel) (pa_cons (pe_op op_add (pe_op op_mul (pe_ix ix_list (pv 0) pe_int (fun _ _ => rfl)) pe_int) pe_int) pa_nil)) pe_int) (pg_sub (pv 0) pe_int set_list))
      (pss_one (ps_ret (pe_op op_mod (pe_callTy call_int1 (by rfl) T.n_int (by decide +kernel) (pa_cons (pe_op op_fdiv (pe_op op_mod (pe_callTy call_int1 (by rfl) T.n_int (by decide +kernel) (pa_cons (pe_op op_mul (pe_ix ix_list (pv 0) pe_int (fun _ _ => rfl)) (pe_ix ix_list (pv 0) pe_int (fun _ _ => rfl))) pa_nil)) pe_int) pe_int) pa_nil)) (pv 1)))))), ?_⟩
    walk_at "rd"
    refine ite2 (fun _ => ?_) (fun _ => ?_)
    · walk_at "rd"
      refine And.intro ⟨m0, divs_ok m0 m1⟩ fun t ht => ?_
      walk_at "rd"
      refine k _ (a / m) b _ (Int.emod_nonneg _ (by omega)) (Int.emod_lt_of_pos _ m0) b0 b1 (fun q o n e => ?_) upd_same
      rw [upd_ne n, upd_ne (ne_of_none e ht)]; exact e
    · walk_at "rd"
      refine k _ a ((b * 48271 + 12391) % 2147483587) _ (Int.emod_nonneg _ (by omega)) (Int.emod_lt_of_pos _ m0) (Int.emod_nonneg _ (by decide)) (Int.lt_trans (Int.emod_lt_of_pos _ (by decide)) (by decide)) (fun q o n e => ?_) upd_same
      rw [upd_ne n]; exact e

theorem d_pot (T : Txt K mg) : Df P w K mg base 1 "_law_pot" ["_law_script", "_law_k"] (spPot K) := by
  refine pot_up (T.S_l_pot.by sc_l_pot (fun vs H Q E h => ?_) (fun f cdv A outer s H vs Q E hr hgd h => ?_)) rfl
  · obtain ⟨s, ns, i, rfl, _⟩ := h; rfl
  · obtain ⟨s, ns, i, rfl, hs, l1, i1, k⟩ := h
    refine ⟨_, (pss_cons (ps_set (i := 2) sc_l_pot.nd rfl (by first | exact Or.inl rfl | exact Or.inr rfl) (pe_op op_add (pe_op op_mul pe_int (pv 1)) pe_int))
      (pss_cons (ps_if (pt_cmpR op_lt (pv 1) (pe_callB call_len_seq (by rfl) T.n_len PySem.boot_len (pa_cons (pv 0) pa_nil)) (nomark _)) (pss_one (ps_set (i := 2) sc_l_pot.nd rfl (by first | exact Or.inl rfl | exact Or.inr rfl) (pe_callB call_abs (by rfl) T.n_abs (by decide +kernel) (pa_cons (pe_ix ix_list (pv 0) (pv 1) (fun _ _ => rfl)) pa_nil)))) pss_nil)
      (pss_one (ps_ret (pe_lst (pa_cons (pe_callB (call_max2 rfl) (by rfl) T.n_max (by decide +kernel) (pa_cons pe_int (pa_cons (pe_op op_sub (pv 2) (pe_op op_pow pe_int pe_int)) pa_nil))) (pa_cons (pe_op op_add (pe_op op_mod (pe_op op_mul (pe_callTy call_int1 (by rfl) T.n_int (by decide +kernel) (pa_cons (pe_op op_add (pe_op op_mod (pe_callTy call_int1 (by rfl) T.n_int (by decide +kernel) (pa_cons (pv 2) pa_nil)) pe_int) pe_int) pa_nil)) (pe_op op_pow (pe_op op_add (pe_op op_mul pe_int (pv 1)) pe_int) pe_int)) pe_int) pe_int) pa_nil))))))), ?_⟩
    walk_at "rd"
    refine ite2 (fun c => ?_) (fun c => ?_)
    · have hi : i < ns.length := by
        have z := of_decide_eq_true c
        rw [List.length_map] at z
        omega
      have hn : (ns.map V.int)[i]? = some (V.int ns[i]) := by rw [List.getElem?_map, List.getElem?_eq_getElem hi]; rfl
      walk_at "rd"
      refine And.intro (at_of rfl hn) ?_
      walk_at "rd"
      refine And.intro ⟨by decide, by decide, by omega⟩ ?_
      walk_at "rd"
      intro p np
      exact k _ _ p _ (by omega) (by omega) np (Same.new np) upd_same
    · walk_at "rd"
      refine And.intro ⟨by decide, by decide, by omega⟩ ?_
      walk_at "rd"
      intro p np
      exact k _ _ p _ (by omega) (by omega) np (Same.new np) upd_same

/-! an index of a list by a draw -/
def spAmong (K : PySem.W.Frag) : Sp := fun vs H Q _ => ∃ (p a : Addr) (xs : List V), vs = [.ref p, .ref a] ∧ H p = some (PotO p) ∧ SqL K H a xs ∧ 0 < xs.length ∧ xs.length ≤ 100000 ∧ ∀ y H', y ∈ xs → L2.Same H H' → Q y H'
theorem d_among (T : Txt K mg) : Df P w K mg base 2 "_law_pick" ["_law_pot_here", "_law_some"] (spAmong K) := by
  have D_l_draw := d_draw (P := P) (w := w) (base := base) T
  refine T.S_l_pick.by sc_l_pick (fun vs H Q E h => ?_) (fun f cdv A outer s H vs Q E hr hgd h => ?_)
  · obtain ⟨p, a, xs, rfl, _⟩ := h; rfl
  · obtain ⟨p, a, xs, rfl, hp, ha, l0, l1, k⟩ := h
    refine ⟨_, (pss_one (ps_ret (pe_ix ix_list (pv 1) (pe_own D_l_draw (hr.mono (by first | decide | omega)) hgd (pa_cons (pv 0) (pa_cons (pe_callB call_len_seq (by rfl) T.n_len PySem.boot_len (pa_cons (pv 1) pa_nil)) pa_nil))) (fun _ _ => rfl)))), ?_⟩
    refine ⟨_, rfl, _, rfl, _, rfl, a, xs, rfl, .inl ha, ?_⟩
    walk_at "rd"
    intro d H' d0 d1 e
    have hd : d.toNat < xs.length := by omega
    refine ⟨a, xs, d, _, rfl, rfl, e.seq ha, at_of (j := d.toNat) (by omega) (List.getElem?_eq_getElem hd), ?_⟩
    exact k _ H' (List.getElem_mem _) e
end
end K63

set_option Elab.async false
set_option linter.all false
set_option maxRecDepth 100000
set_option maxHeartbeats 4000000
namespace K63
open PySem L2 Lay Own SrtO TL
/-- one to eight letters -/
def Wd (z : Str) : Prop := 1 ≤ z.cps.toList.length ∧ z.cps.toList.length ≤ 8 ∧ ∀ c ∈ z.cps.toList, c ∈ letters.cps.toList
theorem Wd.name {z : Str} (h : Wd z) : nameB z = true := by
  obtain ⟨h1, h2, h3⟩ := h
  have e : z.length = z.cps.toList.length := by simp [Str.length]
  unfold nameB
  rw [decide_eq_true (show (1 : Int) ≤ (z.length : Int) by omega), decide_eq_true (show (z.length : Int) ≤ 8 by omega)]
  show (lets z).all id = true
  unfold lets
  rw [List.all_map, List.all_eq_true]
  intro i hi
  have hi := List.mem_range.mp hi
  refine decide_eq_true (h3 _ ?_)
  have : z.cps.getD i 0 = z.cps[i] := by simp [Array.getD, hi]
  rw [this]
  simp
theorem Wd.ok {z : Str} (h : Wd z) : PyData.strOk z = true := by
  unfold PyData.strOk
  rw [Array.all_eq_true_iff_forall_mem]
  intro c hc
  have a : ∀ x ∈ letters.cps.toList, x < 0x110000 := by decide +kernel
  exact decide_eq_true (a c (h.2.2 c (by simpa using hc)))
def sg (c : Nat) : Str := ⟨#[c]⟩
theorem sg_inj {c d : Nat} (h : sg c = sg d) : c = d := by
  have := congrArg (fun z : Str => z.cps.toList) h
  simpa [sg] using this
theorem joined (cs : List Nat) : (Txt.join "" (cs.map sg)).cps.toList = cs := by
  rw [join_eq]
  have h := tl_join "" (cs.map sg)
  have g : ∀ l : List Nat, joinL [] ((l.map sg).map tl) = l := by
    intro l
    induction l with
    | nil => rfl
    | cons a l ih =>
      cases l with
      | nil => rfl
      | cons b l => show tl (sg a) ++ ([] ++ joinL [] (((b :: l).map sg).map tl)) = a :: b :: l; rw [ih]; rfl
  exact h.trans (g cs)
theorem signs_of {Pc : Nat → Prop} : ∀ {ys : List V}, (∀ (i : Nat) y, ys[i]? = some y → ∃ c, Pc c ∧ y = .str (sg c)) → ∃ cs : List Nat, ys = (cs.map sg).map V.str ∧ ∀ c ∈ cs, Pc c
  | [], _ => ⟨[], rfl, fun c h => by cases h⟩
  | y :: ys, h => by
    obtain ⟨c, hc, rfl⟩ := h 0 y rfl
    obtain ⟨cs, e, hcs⟩ := signs_of (ys := ys) fun i z hz => h (i + 1) z (by simpa using hz)
    refine ⟨c :: cs, by rw [e]; rfl, fun d hd => ?_⟩
    rcases List.mem_cons.mp hd with rfl | hd
    · exact hc
    · exact hcs d hd
theorem sum_sg (cs : List Nat) : ((cs.map sg).map (fun x : Str => x.length)).sum = cs.length := by
  induction cs with
  | nil => rfl
  | cons c cs ih => simp only [List.map_cons, List.sum_cons, List.length_cons, ih]; show 1 + cs.length = _; omega
/-- the word with another sign behind its first seven -/
def vary (z : Str) (c : Nat) : Str := cutS z none (some 6) ++ sg c
theorem vary_tl (z : Str) (c : Nat) : (vary z c).cps.toList = z.cps.toList.take 6 ++ [c] := by
  unfold vary
  show tl (cutS z none (some ((6 : Nat) : Int)) ++ sg c) = _
  rw [tl_append]
  show (z.cps.toList.drop (HT.sIx z.length 0 none)).take (HT.sIx z.length z.length (some ((6 : Nat) : Int)) - HT.sIx z.length 0 none) ++ [c] = _
  rw [HT.sIx_nat, HT.sIx_none, List.drop_zero, Nat.sub_zero, len_tl z]
  congr 1
  show (tl z).take (min 6 (tl z).length) = (tl z).take 6
  by_cases q : 6 ≤ (tl z).length
  · rw [Nat.min_eq_left q]
  · rw [Nat.min_eq_right (by omega), List.take_of_length_le (Nat.le_refl _), List.take_of_length_le (by omega)]
theorem Wd.vary {z : Str} {c : Nat} (h : Wd z) (hc : c ∈ letters.cps.toList) : Wd (vary z c) := by
  unfold Wd
  rw [vary_tl, List.length_append, List.length_take]
  refine ⟨by show 1 ≤ _ + 1; omega, by show _ + 1 ≤ 8; omega, fun d hd => ?_⟩
  rcases List.mem_append.mp hd with hd | hd
  · exact h.2.2 d (List.mem_of_mem_take hd)
  · rw [List.mem_singleton.mp hd]; exact hc
theorem vary_inj {z : Str} {c d : Nat} (h : vary z c = vary z d) : c = d := by
  have := congrArg (fun z : Str => z.cps.toList) h
  simp only [vary_tl] at this
  have := List.append_cancel_left this
  simpa using this
/-- more unlike things than there are in the other list -/
theorem pigeon {α : Type} [DecidableEq α] : ∀ {l m : List α}, l.Nodup → m.length < l.length → ∃ x ∈ l, x ∉ m
  | [], m, _, h => by simp at h
  | a :: l, m, hn, h => by
    by_cases c : a ∈ m
    · have hl : (m.erase a).length < l.length := by
        rw [List.length_erase_of_mem c]
        have : 0 < m.length := List.length_pos_of_mem c
        simp at h; omega
      obtain ⟨x, hx, hm⟩ := pigeon (List.nodup_cons.mp hn).2 hl
      refine ⟨x, List.mem_cons_of_mem _ hx, fun z => hm ?_⟩
      exact (List.mem_erase_of_ne (fun e => (List.nodup_cons.mp hn).1 (by rw [← e]; exact hx))).mpr z
    · exact ⟨a, List.mem_cons_self .., c⟩
theorem inV_str (w : Str) (ns : List Str) : inV (.str w) (ns.map V.str) = decide (w ∈ ns) := by
  induction ns with
  | nil => rfl
  | cons n ns ih =>
    show (eqV (.str n) (.str w) || inV (.str w) (ns.map V.str)) = _
    rw [ih]
    show ((n == w) || decide (w ∈ ns)) = _
    by_cases h : w = n
    · subst h; simp
    · have h' : ¬ n = w := fun z => h z.symm
      simp [h, h']
theorem flat_str (ns : List Str) : (ns.map V.str).all flatV = true := by
  rw [List.all_map, List.all_eq_true]
  exact fun _ _ => rfl
theorem vals_of_at {α : Type} {f : α → Str} {cs : List α} {ys : List V} (hl : ys.length = cs.length) (h : ∀ (i : Nat) y, ys[i]? = some y → ∃ c, cs[i]? = some c ∧ y = .str (f c)) : ys = (cs.map f).map V.str := by
  apply List.ext_getElem?
  intro i
  rw [List.getElem?_map, List.getElem?_map]
  cases hy : ys[i]? with
  | none =>
    have : cs.length ≤ i := by rw [← hl]; exact List.getElem?_eq_none_iff.mp hy
    rw [List.getElem?_eq_none this]; rfl
  | some y =>
    obtain ⟨c, hc, rfl⟩ := h i y hy
    rw [hc]; rfl
theorem Wd.len {z : Str} (h : Wd z) : z.length ≤ 8 := by rw [len_tl z]; exact h.2.1
/-- all that may be the new word -/
def fresh (z : Str) : List Str := z :: letters.cps.toList.map (vary z)
theorem fresh_some {z : Str} {found : List Str} (h : found.length < 26) : (fresh z).filter (fun x => !decide (x ∈ found)) ≠ [] := by
  have hn : (letters.cps.toList.map (vary z)).Nodup := by
    rw [List.nodup_iff_pairwise_ne, List.pairwise_map]
    have : letters.cps.toList.Nodup := by decide +kernel
    exact List.Pairwise.imp (fun a e => a (vary_inj e)) this
  have hl : (letters.cps.toList.map (vary z)).length = 26 := by rw [List.length_map]; decide +kernel
  obtain ⟨x, hx, hm⟩ := pigeon (m := found) hn (by rw [hl]; exact h)
  intro e
  have : x ∈ (fresh z).filter (fun x => !decide (x ∈ found)) := List.mem_filter.mpr ⟨List.mem_cons_of_mem _ hx, by rw [decide_eq_false hm]; rfl⟩
  rw [e] at this
  cases this
theorem fresh_wd {z : Str} (h : Wd z) : ∀ x ∈ fresh z, Wd x := fun x hx => by
  rcases List.mem_cons.mp hx with rfl | hx
  · exact h
  · obtain ⟨c, hc, rfl⟩ := List.mem_map.mp hx
    exact h.vary hc
theorem app_vary {z : Str} {c : Nat} (h : z.cps.toList.length ≤ 6) : z ++ sg c = vary z c := by
  refine TL.ext_tl ?_
  show tl (z ++ sg c) = (vary z c).cps.toList
  rw [vary_tl, tl_append, List.take_of_length_le h]
  rfl
end K63

set_option Elab.async false
set_option linter.all false
set_option maxRecDepth 100000
set_option maxHeartbeats 4000000
namespace K63
open PySem L2 Lay Own SrtO
local macro_rules | `(tactic| walk_at "ne") => `(tactic| first | assumption | (apply Ne.symm; assumption) | exact ne_of_none (by walk_at "look") (by assumption) | exact (ne_of_none (by walk_at "look") (by assumption)).symm)
local macro_rules | `(tactic| walk_at "look") => `(tactic| first | assumption | exact upd_same | (refine Eq.trans (upd_ne ?_) ?_; walk_at "ne"; walk_at "look"))
local macro_rules | `(tactic| walk_at "rds") => `(tactic| first | rfl | assumption | walk_at "look" | exact SqL.of (by walk_at "look") | exact SqT.of (by walk_at "look") | exact Or.inl (SqL.of (by walk_at "look")) | exact Or.inl (by assumption) | decide | omega | exact Nat.le_of_ble_eq_true rfl | exact Or.inr ⟨by decide, by decide⟩ | exact Or.inl ⟨by omega, by omega⟩ | exact ⟨by decide, by decide⟩)
local macro_rules | `(tactic| walk_at "rd1") => `(tactic| first | (apply Exists.intro) | (refine And.intro ?_ ?_; walk_at "rds") | (refine Or.inl ?_; apply Exists.intro; refine And.intro ?_ ?_; rfl))
local macro_rules | `(tactic| walk_at "rd") => `(tactic| repeat walk_at "rd1")
section
variable {P : Program} {w : World} {K : PySem.W.Frag} {mg : Str → Option Value} {base : Heap}
/-! what is asked of right values alone -/
def spCnt : Sp := fun vs H Q _ => ∃ i, vs = [.int i] ∧ 0 ≤ i ∧ Q (.bl true) H
theorem d_is_count (T : Txt K mg) : Df P w K mg base 2 "is_count" ["value"] spCnt := by
  have D_is_integer := d_is_integer (P := P) (w := w) (base := base) T
  refine T.S_is_count.by sc_is_count (fun vs H Q E h => ?_) (fun f cdv A outer s H vs Q E hr hgd h => ?_)
  · obtain ⟨x, rfl, _⟩ := h; rfl
  · obtain ⟨i, rfl, i0, k⟩ := h
    refine ⟨_, (pss_one (ps_ret (pe_and (pe_own D_is_integer (hr.mono (by first | decide | omega)) hgd (pa_cons (pv 0) pa_nil)) (pe_one (pe_cmpR op_ge (pv 0) pe_int (nomark _)))))), ?_⟩
    refine ⟨_, rfl, .int i, rfl, .int i, true, rfl, iteT ?_⟩
    refine ⟨_, rfl, i, 0, rfl, rfl, ?_⟩
    show Q (.bl (decide (0 ≤ i))) H
    rw [decide_eq_true i0]
    exact k
def spPer : Sp := fun vs H Q _ => ∃ i, vs = [.int i] ∧ 1 ≤ i ∧ i ≤ 500 ∧ Q (.bl true) H
theorem d_is_period (T : Txt K mg) : Df P w K mg base 2 "is_period" ["value"] spPer := by
  have D_is_integer := d_is_integer (P := P) (w := w) (base := base) T
  obtain ⟨mc, cr, u2, c2⟩ := T.cr
  refine T.S_is_period.by sc_is_period (fun vs H Q E h => ?_) (fun f cdv A outer s H vs Q E hr hgd h => ?_)
  · obtain ⟨x, rfl, _⟩ := h; rfl
  · obtain ⟨i, rfl, i1, i5, k⟩ := h
    refine ⟨_, (pss_one (ps_ret (pe_and (pe_own D_is_integer (hr.mono (by first | decide | omega)) hgd (pa_cons (pv 0) pa_nil)) (pe_one (pe_chain op_le op_le pe_int (pv 0) (ClX.pe_cval (pe_glob (v := .ref (He.ga K "Plan")) (by rfl) T.g_Plan rfl))))))), ?_⟩
    refine ⟨_, rfl, .int i, rfl, .int i, true, rfl, iteT ?_⟩
    refine ⟨_, rfl, 1, i, rfl, rfl, true, congrArg V.bl (decide_eq_true i1), iteT ?_⟩
    refine ⟨_, mc, _, u2, rfl, cr, c2, i, 500, rfl, rfl, ?_⟩
    show Q (.bl (decide (i ≤ 500))) H
    rw [decide_eq_true i5]
    exact k
def spCol : Sp := fun vs H Q _ => ∃ i, vs = [.int i] ∧ Q .non H
theorem d_check_column (T : Txt K mg) : Df P w K mg base 2 "check_column" ["value"] spCol := by
  have D_is_integer := d_is_integer (P := P) (w := w) (base := base) T
  refine T.S_check_column.by sc_check_column (fun vs H Q E h => ?_) (fun f cdv A outer s H vs Q E hr hgd h => ?_)
  · obtain ⟨x, rfl, _⟩ := h; rfl
  · obtain ⟨i, rfl, k⟩ := h
    refine ⟨_, (pss_one (ps_if (pt_not (pt_val (pe_own D_is_integer (hr.mono (by first | decide | omega)) hgd (pa_cons (pv 0) pa_nil)))) (pss_one ps_never) pss_nil)), ?_⟩
    refine ⟨_, rfl, .int i, rfl, .int i, true, rfl, iteF ?_⟩
    exact k
/-- a place: a remainder and a name -/
def spRem : Sp := fun vs H Q _ => ∃ a i n m, vs = [.ref a, .int m] ∧ H a = some (.tup [.int i, .str n]) ∧ 0 ≤ i ∧ i < m ∧ Wd n ∧ ∀ H', L2.Same H H' → Q (.bl true) H'
theorem d_is_remainder (T : Txt K mg) : Df P w K mg base 3 "is_remainder" ["value", "period"] spRem := by
  have D_is_count := d_is_count (P := P) (w := w) (base := base) T
  have D_is_name := d_is_name (P := P) (w := w) (base := base) T
  refine T.S_is_remainder.by sc_is_remainder (fun vs H Q E h => ?_) (fun f cdv A outer s H vs Q E hr hgd h => ?_)
  · obtain ⟨a, i, n, m, rfl, _⟩ := h; rfl
  · obtain ⟨a, i, n, m, rfl, ha, i0, im, wd, k⟩ := h
    refine ⟨_, (pss_cons (ps_if (PW.pt (pw_or (pt_not (pt_val (pe_callB (Exv.call_isE T.gs) (by rfl) T.n_isinstance (by decide +kernel) (pa_cons (pv 0) (pa_cons (pe_bltn (v := .ty "tuple") (u := .type "tuple") (by rfl) T.n_tuple (by decide +kernel) rfl) pa_nil))))) (pw_or1 (pt_cmpR op_ne (pe_callB call_len_seq (by rfl) T.n_len PySem.boot_len (pa_cons (pv 0) pa_nil)) pe_int (nomark _))))) (pss_one (ps_ret pe_bl)) pss_nil)
      (pss_one (ps_ret (pe_and (pe_own D_is_count (hr.mono (by first | decide | omega)) hgd (pa_cons (pe_ix ix_tup (pv 0) pe_int (fun _ _ => rfl)) pa_nil)) (pe_and (pe_cmpR op_lt (pe_ix ix_tup (pv 0) pe_int (fun _ _ => rfl)) (pv 1) (nomark _)) (pe_one (pe_own D_is_name (hr.mono (by first | decide | omega)) hgd (pa_cons (pe_ix ix_tup (pv 0) pe_int (fun _ _ => rfl)) pa_nil)))))))), ?_⟩
    obtain ⟨t, ty, kt⟩ := tup_isi (K := K) ha
    have l1 : n.length ≤ 100000 := Nat.le_trans wd.len (by decide)
    refine ⟨_, rfl, _, .ty "tuple", t, .type "tuple", _, rfl, .ty _, ty, kt, _, rfl, ?_⟩
    refine iteF ?_
    refine ⟨_, rfl, a, _, rfl, .inr (SqT.of ha), ?_⟩
    walk_at "rd"
    rw [decide_eq_true im]
    refine iteT ?_
    refine ⟨_, rfl, a, _, 1, _, rfl, rfl, SqT.of ha, rfl, .str n, rfl, .str n l1, fun H' s => ?_⟩
    rw [show nB (.str n) = true from wd.name]
    exact k H' s
def spPtn : Sp := fun vs H Q _ => ∃ a i n, vs = [.ref a] ∧ H a = some (.tup [.int i, .str n]) ∧ -60 ≤ i ∧ i ≤ 60 ∧ Wd n ∧ ∀ H', L2.Same H H' → Q (.bl true) H'
theorem d_is_partner (T : Txt K mg) : Df P w K mg base 3 "is_partner" ["value"] spPtn := by
  have D_is_integer := d_is_integer (P := P) (w := w) (base := base) T
  have D_is_name := d_is_name (P := P) (w := w) (base := base) T
  refine T.S_is_partner.by sc_is_partner (fun vs H Q E h => ?_) (fun f cdv A outer s H vs Q E hr hgd h => ?_)
  · obtain ⟨a, i, n, rfl, _⟩ := h; rfl
  · obtain ⟨a, i, n, rfl, ha, i0, i6, wd, k⟩ := h
    refine ⟨_, (pss_cons (ps_if (PW.pt (pw_or (pt_not (pt_val (pe_callB (Exv.call_isE T.gs) (by rfl) T.n_isinstance (by decide +kernel) (pa_cons (pv 0) (pa_cons (pe_bltn (v := .ty "tuple") (u := .type "tuple") (by rfl) T.n_tuple (by decide +kernel) rfl) pa_nil))))) (pw_or1 (pt_cmpR op_ne (pe_callB call_len_seq (by rfl) T.n_len PySem.boot_len (pa_cons (pv 0) pa_nil)) pe_int (nomark _))))) (pss_one (ps_ret pe_bl)) pss_nil)
      (pss_one (ps_ret (pe_and (pe_own D_is_integer (hr.mono (by first | decide | omega)) hgd (pa_cons (pe_ix ix_tup (pv 0) pe_int (fun _ _ => rfl)) pa_nil)) (pe_and (pe_chain op_le op_le (pe_un un_neg (pe_con1 T.c_FARTHEST)) (pe_ix ix_tup (pv 0) pe_int (fun _ _ => rfl)) (pe_con1 T.c_FARTHEST)) (pe_one (pe_own D_is_name (hr.mono (by first | decide | omega)) hgd (pa_cons (pe_ix ix_tup (pv 0) pe_int (fun _ _ => rfl)) pa_nil)))))))), ?_⟩
    obtain ⟨t, ty, kt⟩ := tup_isi (K := K) ha
    have l1 : n.length ≤ 100000 := Nat.le_trans wd.len (by decide)
    refine ⟨_, rfl, _, .ty "tuple", t, .type "tuple", _, rfl, .ty _, ty, kt, _, rfl, ?_⟩
    refine iteF ?_
    refine ⟨_, rfl, a, _, rfl, .inr (SqT.of ha), ?_⟩
    walk_at "rd"
    refine And.intro (.int i) ?_
    refine ⟨true, rfl, iteT ?_⟩
    walk_at "rd"
    rw [decide_eq_true i0]
    refine iteT ?_
    refine ⟨i, 60, rfl, rfl, true, congrArg V.bl (decide_eq_true i6), iteT ?_⟩
    refine ⟨_, rfl, a, _, 1, _, rfl, rfl, SqT.of ha, rfl, .str n, rfl, .str n l1, fun H' s => ?_⟩
    rw [show nB (.str n) = true from wd.name]
    exact k H' s
end
end K63

set_option Elab.async false
set_option linter.all false
set_option maxRecDepth 100000
set_option maxHeartbeats 4000000
namespace K63
open PySem L2 Lay Own SrtO
local macro_rules | `(tactic| walk_at "ne") => `(tactic| first | assumption | (apply Ne.symm; assumption) | exact ne_of_none (by walk_at "look") (by assumption) | exact (ne_of_none (by walk_at "look") (by assumption)).symm)
local macro_rules | `(tactic| walk_at "look") => `(tactic| first | assumption | exact upd_same | (refine Eq.trans (upd_ne ?_) ?_; walk_at "ne"; walk_at "look"))
local macro_rules | `(tactic| walk_at "rds") => `(tactic| first | rfl | assumption | walk_at "look" | exact SqL.of (by walk_at "look") | exact SqT.of (by walk_at "look") | exact Or.inl (SqL.of (by walk_at "look")) | exact Or.inl (by assumption) | decide | omega | exact Nat.le_of_ble_eq_true rfl | exact Or.inr ⟨by decide, by decide⟩ | exact Or.inl ⟨by omega, by omega⟩ | exact ⟨by decide, by decide⟩)
local macro_rules | `(tactic| walk_at "rd1") => `(tactic| first | (apply Exists.intro) | (refine And.intro ?_ ?_; walk_at "rds") | (refine Or.inl ?_; apply Exists.intro; refine And.intro ?_ ?_; rfl))
local macro_rules | `(tactic| walk_at "rd") => `(tactic| repeat walk_at "rd1")
section
variable {P : Program} {w : World} {K : PySem.W.Frag} {mg : Str → Option Value} {base : Heap}
theorem op_notInK {cx : Cx} {C : PySem.W.Frag} (h : cx.K = C) : OpR cx (compareOp .NotIn) (rIn C true) := h ▸ op_notIn_seq
theorem ty_lst {K : PySem.W.Frag} {H : Hp} {l : Addr} {xs : List V} (h : H l = some (.lst xs)) : tyV K "list" (.ref l) H := .inl ⟨rfl, xs, SqL.of h⟩
/-! a sign of a text by a draw -/
def spPickS : Sp := fun vs H Q _ => ∃ (p : Addr) (z : Str), vs = [.ref p, .str z] ∧ H p = some (PotO p) ∧ 0 < z.cps.toList.length ∧ z.cps.toList.length ≤ 1000 ∧ ∀ c H', c ∈ z.cps.toList → L2.Same H H' → Q (.str (sg c)) H'
theorem d_pickS (T : Txt K mg) : Df P w K mg base 2 "_law_pick" ["_law_pot_here", "_law_some"] spPickS := by
  have D_l_draw := d_draw (P := P) (w := w) (base := base) T
  refine T.S_l_pick.by sc_l_pick (fun vs H Q E h => ?_) (fun f cdv A outer s H vs Q E hr hgd h => ?_)
  · obtain ⟨p, z, rfl, _⟩ := h; rfl
  · obtain ⟨p, z, rfl, hp, l0, l1, k⟩ := h
    refine ⟨_, (pss_one (ps_ret (pe_ix ix_str (pv 1) (pe_own D_l_draw (hr.mono (by first | decide | omega)) hgd (pa_cons (pv 0) (pa_cons (pe_callB call_len_str (by rfl) T.n_len PySem.boot_len (pa_cons (pv 1) pa_nil)) pa_nil))) (fun _ _ => rfl)))), ?_⟩
    have lz : z.length = z.cps.toList.length := TL.len_tl z
    have ls : z.length ≤ sizeLine := Nat.le_trans (m := 1000) (by omega) (by decide +kernel)
    refine ⟨_, rfl, _, rfl, _, rfl, z, rfl, ls, p, (z.length : Int), rfl, hp, by omega, Int.lt_of_le_of_lt (b := 1000) (by omega) (by decide), fun d H' d0 d1 e => ?_⟩
    have hd : d.toNat < z.cps.toList.length := by omega
    refine ⟨z, d, z.cps.toList[d.toNat], rfl, rfl, ls, (congrArg (atI z.cps.toList) (show d = ((d.toNat : Nat) : Int) by omega)).trans (atI_nat (List.getElem?_eq_getElem hd)), ?_⟩
    exact k _ H' (List.getElem_mem _) e
/-! names -/
structure NsOk (ns : List Str) : Prop where
  nd : ns.Nodup
  ok : ∀ z ∈ ns, Wd z
def spNames (K : PySem.W.Frag) : Sp := fun vs H Q _ => ∃ (p : Addr) (n : Nat), vs = [.ref p, .int n] ∧ H p = some (PotO p) ∧ n ≤ 16 ∧ ∀ l ns H', L2.Same H H' → H l = none → H' l = some (.lst (ns.map V.str)) → NsOk ns → ns.length = n → Q (.ref l) H'
theorem d_lnames (T : Txt K mg) : Df P w K mg base 3 "_law_named" ["_law_pot_here", "_law_lot"] (spNames K) := by
  have D_l_draw := d_draw (P := P) (w := w) (base := base) T
  have D_l_pick := d_pickS (P := P) (w := w) (base := base) T
  refine T.S_l_named.by sc_l_named (fun vs H Q E h => ?_) (fun f cdv A outer s H vs Q E hr hgd h => ?_)
  · obtain ⟨p, n, rfl, _⟩ := h; rfl
  · obtain ⟨p, n, rfl, hp, ln, k⟩ := h
    refine ⟨_, (pss_cons (ps_asg (pe_tup (pa_cons pe_str (pa_cons (pe_lst pa_nil) pa_nil))) (pg_tup rfl (pgs_cons (pg_name (i := 2) sc_l_named.nd rfl (by first | exact Or.inl rfl | exact Or.inr rfl)) (pgs_cons (pg_name (i := 3) sc_l_named.nd rfl (by first | exact Or.inl rfl | exact Or.inr rfl)) pgs_nil))))
      (pss_cons (ps_for PassesOwn.never rfl (pi_range1 (by rfl) T.n_range (pa_cons (pv 1) pa_nil)) (pg_name (i := 4) sc_l_named.nd rfl (by first | exact Or.inl rfl | exact Or.inr rfl)) (pss_cons (ps_set (i := 5) sc_l_named.nd rfl (by first | exact Or.inl rfl | exact Or.inr rfl) (pe_join pe_str (pe_lc (own := [("_law_more", 7)]) rfl sc_l_named.nd (pi_range1 (by rfl) T.n_range (pa_cons (pe_op op_add pe_int (pe_own D_l_draw (hr.mono (by first | decide | omega)) hgd (pa_cons (pv 0) (pa_cons pe_int pa_nil)))) pa_nil)) (blkOk_by (own := [("_law_more", 7)]) (N := ["_law_pot_here", "_law_lot", "_law_signs", "_law_found", "_law_turn", "_law_label", "_law_spare", "_law_more", "_law_sign", "_law_near"]) (sc := defScope s_l_named) (by decide +kernel)) (fun _ _ _ _ _ => (pg_name (i := 7) sc_l_named.nd rfl (by first | exact Or.inl rfl | exact Or.inr rfl))) (fun _ _ _ _ _ => pts_nil) (fun _ _ _ _ _ => (pe_own D_l_pick (hr.mono (by first | decide | omega)) hgd (pa_cons (pv 0) (pa_cons (pv 2) pa_nil)))))))
      (pss_cons (ps_set (i := 6) sc_l_named.nd rfl (by first | exact Or.inl rfl | exact Or.inr rfl) (pe_op op_cat (pe_lst (pa_cons (pv 5) pa_nil)) (pe_lc (own := [("_law_sign", 8)]) rfl sc_l_named.nd (pi_str (pv 2)) (blkOk_by (own := [("_law_sign", 8)]) (N := ["_law_pot_here", "_law_lot", "_law_signs", "_law_found", "_law_turn", "_law_label", "_law_spare", "_law_more", "_law_sign", "_law_near"]) (sc := defScope s_l_named) (by decide +kernel)) (fun _ _ _ _ _ => (pg_name (i := 8) sc_l_named.nd rfl (by first | exact Or.inl rfl | exact Or.inr rfl))) (fun _ _ _ _ _ => pts_nil) (fun _ _ _ _ _ => (pe_op op_add_str (pv 5) (pv 8))))))
      (pss_one (ps_expr (pe_bm PySem.F.plainAttrs_list PySem.F.slot_list_append PySem.F.type_list_append mt_append (pv 3) (pa_cons (pe_ix ix_list (pe_lc (own := [("_law_near", 9)]) rfl sc_l_named.nd (pi_list (pv 6)) (blkOk_by (own := [("_law_near", 9)]) (N := ["_law_pot_here", "_law_lot", "_law_signs", "_law_found", "_law_turn", "_law_label", "_law_spare", "_law_more", "_law_sign", "_law_near"]) (sc := defScope s_l_named) (by decide +kernel)) (fun _ _ _ _ _ => (pg_name (i := 9) sc_l_named.nd rfl (by first | exact Or.inl rfl | exact Or.inr rfl))) (fun _ _ _ _ _ => pts_one (pt_cmpR (op_notInK (C := K) rfl) (pv 9) (pv 3) (by rfl))) (fun _ _ _ _ _ => (pv 9))) pe_int (fun _ _ => rfl)) pa_nil)))))))
      (pss_one (ps_ret (pv 3))))), ?_⟩
    walk_at "rd"
    intro o no
    walk_at "rd"
    intro t nt
    have s0 : L2.Same H (upd (upd H o (.lst [])) t (.tup [V.str "abcdefghijklmnopqrstuvwxyz", .ref o])) := (Same.new no).trans (Same.new nt)
    have o0 : (upd (upd H o (.lst [])) t (.tup [V.str "abcdefghijklmnopqrstuvwxyz", .ref o])) o = some (.lst []) := by
      rw [upd_ne (fun z => by rw [← z, upd_same] at nt; cases nt)]; exact upd_same
    refine ⟨t, _, rfl, SqT.of upd_same, rfl, _, _, rfl, _, _, rfl, rfl, ?_⟩
    refine ⟨_, rfl, n, rfl, by omega, by omega, ?_⟩
    refine for_it walk_range (fun i σ H' => ∃ (a4 a5 a6 a7 a8 a9 : Option V) (ns : List Str), σ = [some (.ref p), some (.int n), some (.str letters), some (.ref o), a4, a5, a6, a7, a8, a9] ∧ L2.Same H H' ∧ H' o = some (.lst (ns.map V.str)) ∧ NsOk ns ∧ ns.length = i)
      ⟨_, _, _, _, _, _, [], rfl, s0, o0, ⟨List.nodup_nil, fun z hz => by cases hz⟩, rfl⟩ (fun _ _ _ _ _ => trivial) (fun i x σ H1 H2 hi hP y => ?_) (fun σ H1 hP => ?_)
    · obtain ⟨a4, a5, a6, a7, a8, a9, ns, rfl, s1, ho, ok, ln⟩ := hP
      obtain ⟨rfl, rfl⟩ := y
      refine ⟨⟨_, rfl⟩, _, rfl, p, 3, rfl, s1 _ _ hp, by decide, by decide, fun d H4 d0 d1 s4 => ?_⟩
      have t3 := s1.trans s4
      refine ⟨1, d, rfl, rfl, 1 + d, rfl, by omega, by omega, fun D nD => ?_⟩
      refine lc_pure walk_range nD (by omega) (fun _ _ => trivial) (fun i y => ∃ c, c ∈ letters.cps.toList ∧ y = .str (sg c)) (fun i x H5 H6 Kn Z hi sm y q => ?_) (fun H5 ys sm hD hl hr => ?_)
      · obtain ⟨rfl, rfl⟩ := y
        exact ⟨rfl, _, rfl, _, rfl, p, letters, rfl, (t3.trans sm) _ _ hp, by decide +kernel, by decide +kernel, fun c H7 hc s7 => q _ _ s7 ⟨c, hc, rfl⟩⟩
      · obtain ⟨cs, rfl, hcs⟩ := signs_of hr
        have lc : cs.length = (1 + d).toNat := by rw [← hl, List.length_map, List.length_map]
        refine ⟨"", D, cs.map sg, rfl, rfl, .inl (SqL.of hD), ?_, ?_⟩
        · rw [sum_sg, List.length_map]
          show cs.length + cs.length * 0 ≤ _
          omega
        have wz : Wd (Txt.join "" (cs.map sg)) := by
          unfold Wd
          rw [joined]
          exact ⟨by omega, by omega, hcs⟩
        have wl : (Txt.join "" (cs.map sg)).cps.toList.length ≤ 6 := by
          rw [joined]
          omega
        generalize Txt.join "" (cs.map sg) = z at wz wl
        have t4 := t3.trans sm
        walk_at "rd"
        intro l2 nl2
        have t5 := t4.trans (Same.new (o := .lst [V.str z]) nl2)
        refine ⟨_, rfl, letters, rfl, fun D2 nD2 => ?_⟩
        refine lc_pure walk_str nD2 (by decide +kernel) (fun _ _ => trivial) (fun i y => ∃ c, letters.cps.toList[i]? = some c ∧ y = .str (vary z c)) (fun i x H6 H7 Kn Z hi sm6 y q => ?_) (fun H6 ys sm6 hD2 hl2 hr2 => ?_)
        · obtain ⟨rfl, c, hc, rfl⟩ := y
          refine ⟨rfl, ?_⟩
          walk_at "rd"
          have hc2 : letters.cps.toList[i]? = some c := by rw [Array.getElem?_toList]; exact hc
          have lv := (wz.vary (List.mem_of_getElem? hc2)).len
          have le : (z ++ sg c).length = z.length + (sg c).length := strLen_append _ _
          rw [← app_vary wl] at lv
          exact ⟨Nat.le_trans (m := 8) (by have e : (sg c).length = ({ cps := #[c] } : Str).length := rfl; omega) (by decide), q _ _ (Same.refl _) ⟨c, hc2, by rw [← app_vary wl]; rfl⟩⟩
        · obtain rfl := vals_of_at (cs := letters.cps.toList) (f := vary z) hl2 hr2
          have t6 := t5.trans sm6
          have h2 : H6 l2 = some (.lst [V.str z]) := sm6 _ _ upd_same
          refine ⟨l2, D2, [V.str z], _, rfl, rfl, h2, hD2, ?_, fun l3 nl3 => ?_⟩
          · rw [List.length_map, List.length_map]
            show 1 + letters.cps.toList.length ≤ sizeLine
            decide +kernel
          have v6 : L2.Same H2 H6 := s4.trans (sm.trans ((Same.new nl2).trans sm6))
          have s7 : L2.Same H6 (upd H6 l3 (.lst ([V.str z] ++ (letters.cps.toList.map (vary z)).map V.str))) := Same.new nl3
          have h7 : (upd H6 l3 (.lst ([V.str z] ++ (letters.cps.toList.map (vary z)).map V.str))) l3 = some (.lst ((fresh z).map V.str)) := upd_same
          generalize upd H6 l3 (.lst ([V.str z] ++ (letters.cps.toList.map (vary z)).map V.str)) = H7 at s7 h7
          have t7 := t6.trans s7
          have ho7 : H7 o = some (.lst (ns.map V.str)) := s7 _ _ (v6 _ _ ho)
          refine ⟨_, rfl, ty_lst ho7, ?_⟩
          refine ⟨_, rfl, l3, rfl, ⟨_, SqL.of h7⟩, fun D4 nD4 => ?_⟩
          refine lc_it (walk_list (xs := (fresh z).map V.str)) (fun i H' => L2.Same H7 H' ∧ H' D4 = some (.lst ((((fresh z).take i).filter (fun x => !decide (x ∈ ns))).map V.str))) ⟨Same.new nD4, upd_same⟩ (fun i H' _ q => SqL.of (q.1 _ _ h7)) (fun i x H8 H9 hi q y => ?_) (fun H8 q => ?_)
          · obtain ⟨s8, h8⟩ := q
            obtain ⟨rfl, hx⟩ := y
            rw [List.getElem?_map] at hx
            obtain ⟨w', hw, rfl⟩ := Option.map_eq_some_iff.mp hx
            refine ⟨rfl, ?_⟩
            have tk : (fresh z).take (i + 1) = (fresh z).take i ++ [w'] := by rw [List.take_add_one, hw]; rfl
            refine ⟨_, rfl, _, rfl, o, ns.map V.str, rfl, .inl (SqL.of (s8 _ _ ho7)), rfl, flat_str ns, _, rfl, ?_⟩
            rw [inV_str]
            refine ite2 (fun c => ?_) (fun c => ?_)
            · refine ⟨_, rfl, _, h8, ?_, Same.mut s8 nD4, ?_⟩
              · rw [List.length_map]
                refine Nat.lt_of_le_of_lt (List.length_filter_le _ _) (Nat.lt_of_le_of_lt (List.length_take_le' _ _) ?_)
                show (letters.cps.toList.map (vary z)).length + 1 < sizeLine
                rw [List.length_map]; decide +kernel
              · rw [tk, List.filter_append, List.map_append]
                have e : [w'].filter (fun x => !decide (x ∈ ns)) = [w'] := by
                  have c : (!decide (w' ∈ ns)) = true := c
                  simp only [List.filter, c]
                rw [e]; exact upd_same
            · refine ⟨s8, ?_⟩
              rw [tk, List.filter_append]
              have e : [w'].filter (fun x => !decide (x ∈ ns)) = [] := by
                have c : (!decide (w' ∈ ns)) = false := Bool.eq_false_iff.mpr c
                simp only [List.filter, c]
              rw [e, List.append_nil]; exact h8
          · obtain ⟨s8, h8⟩ := q
            rw [List.length_map, List.take_length] at h8
            have ne := fresh_some (z := z) (found := ns) (by omega)
            generalize hf : (fresh z).filter (fun x => !decide (x ∈ ns)) = ff at ne h8
            cases ff with
            | nil => exact (ne rfl).elim
            | cons w' rest =>
              have hm : w' ∈ (fresh z).filter (fun x => !decide (x ∈ ns)) := by rw [hf]; exact List.mem_cons_self ..
              obtain ⟨m1, m2⟩ := List.mem_filter.mp hm
              have m3 : ¬ w' ∈ ns := fun z => by rw [decide_eq_true z] at m2; cases m2
              refine ⟨D4, _, 0, .str w', rfl, rfl, SqL.of h8, (show atI _ ((0 : Nat) : Int) = _ from atI_nat rfl), ?_⟩
              refine ⟨o, ns.map V.str, .str w', rfl, rfl, s8 _ _ ho7, ?_, ?_⟩
              · rw [List.length_map]; exact Nat.lt_of_le_of_lt (m := 16) (by omega) (by decide)
              refine ⟨_, _, _, _, _, _, ns ++ [w'], rfl, Same.mut (t7.trans s8) no, ?_, ⟨?_, ?_⟩, ?_⟩
              · rw [List.map_append]; exact upd_same
              · rw [List.nodup_append]
                refine ⟨ok.nd, List.pairwise_singleton _ _, fun a ha b hb q => ?_⟩
                rw [List.mem_singleton] at hb
                subst hb; subst q
                exact m3 ha
              · intro x hx
                rcases List.mem_append.mp hx with hx | hx
                · exact ok.ok x hx
                · rw [List.mem_singleton.mp hx]; exact fresh_wd wz _ m1
              · rw [List.length_append, ln]; rfl
    · obtain ⟨a4, a5, a6, a7, a8, a9, ns, rfl, s1, ho, ok, ln⟩ := hP
      refine ⟨_, rfl, ?_⟩
      exact k o ns H1 s1 no ho ok (by omega)
end
end K63

set_option Elab.async false
set_option linter.all false
set_option maxRecDepth 100000
set_option maxHeartbeats 4000000
namespace K63
open PySem L2 Lay Own SrtO
local macro_rules | `(tactic| walk_at "ne") => `(tactic| first | assumption | (apply Ne.symm; assumption) | exact ne_of_none (by walk_at "look") (by assumption) | exact (ne_of_none (by walk_at "look") (by assumption)).symm)
local macro_rules | `(tactic| walk_at "look") => `(tactic| first | assumption | exact upd_same | (refine Eq.trans (upd_ne ?_) ?_; walk_at "ne"; walk_at "look"))
local macro_rules | `(tactic| walk_at "rds") => `(tactic| first | rfl | assumption | walk_at "look" | exact SqL.of (by walk_at "look") | exact SqT.of (by walk_at "look") | exact Or.inl (SqL.of (by walk_at "look")) | exact Or.inl (by assumption) | decide | omega | exact Nat.le_of_ble_eq_true rfl | exact Or.inr ⟨by decide, by decide⟩ | exact Or.inl ⟨by omega, by omega⟩ | exact ⟨by decide, by decide⟩)
local macro_rules | `(tactic| walk_at "rd1") => `(tactic| first | (apply Exists.intro) | (refine And.intro ?_ ?_; walk_at "rds") | (refine Or.inl ?_; apply Exists.intro; refine And.intro ?_ ?_; rfl))
local macro_rules | `(tactic| walk_at "rd") => `(tactic| repeat walk_at "rd1")
/-! ### places and their partners -/
abbrev Spot := Int × Str
abbrev Row := Spot × Addr × Spot
def tk (p : Spot) : List Key := [.inl p.1, .inr p.2]
def spD (p : Spot) : PyData := .tuple [.int p.1, .str p.2]
theorem tk_inj {p q : Spot} (h : tk p = tk q) : p = q := by
  have h' : [(Sum.inl p.1 : Key), Sum.inr p.2] = [Sum.inl q.1, Sum.inr q.2] := h
  simp only [List.cons.injEq, Sum.inl.injEq, Sum.inr.injEq, and_true] at h'
  exact Prod.ext h'.1 h'.2
theorem un64 {k : Nat} {B : Around} (hr : Room k B) : B.units + 64 < cLine := by
  have := hr.un
  omega
theorem valV_tk {R : List Row} {p : Spot} : valV (R.map fun r => (tk r.1, V.ref r.2.1)) (tk p) = (R.find? fun r => decide (r.1 = p)).map fun r => V.ref r.2.1 := by
  unfold valV
  induction R with
  | nil => rfl
  | cons r R ih =>
    rw [List.map_cons, List.find?_cons, List.find?_cons]
    by_cases c : r.1 = p
    · rw [decide_eq_true (show tk r.1 = tk p by rw [c]), decide_eq_true c]
      rfl
    · rw [decide_eq_false (fun e => c (tk_inj e)), decide_eq_false c]
      exact ih
theorem find_none {R : List Row} {p : Spot} : (R.find? fun r => decide (r.1 = p)) = none ↔ ∀ r ∈ R, r.1 ≠ p := by
  rw [List.find?_eq_none]
  exact ⟨fun h r hr e => h r hr (decide_eq_true e), fun h r hr e => h r hr (of_decide_eq_true e)⟩
/-- at d stands a dict from places to partners -/
def MT (H : Hp) (d : Addr) (R : List Row) : Prop := H d = some (.dT (R.map fun r => (tk r.1, V.ref r.2.1))) ∧ ∀ r ∈ R, H r.2.1 = some (.tup [.int r.2.2.1, .str r.2.2.2])
theorem MT.same {H H' : Hp} {d : Addr} {R : List Row} (h : MT H d R) (s : L2.Same H H') : MT H' d R := ⟨s _ _ h.1, fun r hr => s _ _ (h.2 r hr)⟩
structure MOk (m : Int) (ns : List Str) (R : List Row) : Prop where
  nd : (R.map (·.1)).Nodup
  at_ : ∀ r ∈ R, 0 ≤ r.1.1 ∧ r.1.1 < m ∧ r.1.2 ∈ ns
  go : ∀ r ∈ R, -60 ≤ r.2.2.1 ∧ r.2.2.1 ≤ 60 ∧ r.2.2.2 ∈ ns
  back : ∀ r ∈ R, ∃ q ∈ R, q.1 = ((r.1.1 + r.2.2.1) % m, r.2.2.2) ∧ q.2.2 = (-r.2.2.1, r.1.2)
  ne : ∀ r ∈ R, r.2.2 ≠ (0, r.1.2)
theorem MOk.put {m : Int} {ns : List Str} {R : List Row} (ok : MOk m ns R) (m1 : 1 ≤ m) {a g : Int} {n k : Str} {p q : Addr} (a0 : 0 ≤ a) (a1 : a < m) (hn : n ∈ ns) (hk : k ∈ ns) (g0 : -60 ≤ g) (g1 : g ≤ 60)
    (d : ((a, n) : Spot) ≠ ((a + g) % m, k)) (f1 : ∀ r ∈ R, r.1 ≠ (a, n)) (f2 : ∀ r ∈ R, r.1 ≠ ((a + g) % m, k)) : MOk m ns (R ++ [((a, n), p, (g, k)), (((a + g) % m, k), q, (0 - g, n))]) := by
  have b0 := Int.emod_nonneg (a + g) (show m ≠ 0 by omega)
  have b1 := Int.emod_lt_of_pos (a + g) (show 0 < m by omega)
  have back : ((a + g) % m + (0 - g)) % m = a := by
    have e : ((a + g) % m + (0 - g)) % m = a % m := by
      rw [Int.emod_add_emod]
      congr 1
      omega
    rw [e, Int.emod_eq_of_lt a0 a1]
  refine ⟨?_, fun r hr => ?_, fun r hr => ?_, fun r hr => ?_, fun r hr => ?_⟩
  · rw [List.map_append, List.nodup_append]
    refine ⟨ok.nd, ?_, fun x hx y hy e => ?_⟩
    · show [(a, n), ((a + g) % m, k)].Nodup
      simp only [List.nodup_cons, List.mem_singleton, List.not_mem_nil, not_false_eq_true, List.nodup_nil, and_true]
      exact d
    · obtain ⟨r, hr, rfl⟩ := List.mem_map.mp hx
      have hy' : y = (a, n) ∨ y = ((a + g) % m, k) := by simpa using hy
      rcases hy' with rfl | rfl
      · exact f1 r hr e
      · exact f2 r hr e
  · rcases List.mem_append.mp hr with hr | hr
    · exact ok.at_ r hr
    · simp only [List.mem_cons, List.not_mem_nil, or_false] at hr
      rcases hr with rfl | rfl
      · exact ⟨a0, a1, hn⟩
      · exact ⟨b0, b1, hk⟩
  · rcases List.mem_append.mp hr with hr | hr
    · exact ok.go r hr
    · simp only [List.mem_cons, List.not_mem_nil, or_false] at hr
      rcases hr with rfl | rfl
      · exact ⟨g0, g1, hk⟩
      · exact ⟨by show -60 ≤ 0 - g; omega, by show 0 - g ≤ 60; omega, hn⟩
  · rcases List.mem_append.mp hr with hr | hr
    · obtain ⟨q', h1, h2, h3⟩ := ok.back r hr
      exact ⟨q', List.mem_append_left _ h1, h2, h3⟩
    · simp only [List.mem_cons, List.not_mem_nil, or_false] at hr
      rcases hr with rfl | rfl
      · refine ⟨(((a + g) % m, k), q, (0 - g, n)), List.mem_append_right _ (by simp), rfl, ?_⟩
        show ((0 - g, n) : Spot) = (-g, n)
        rw [Int.zero_sub]
      · refine ⟨((a, n), p, (g, k)), List.mem_append_right _ (by simp), ?_, ?_⟩
        · show ((a, n) : Spot) = (((a + g) % m + (0 - g)) % m, n)
          rw [back]
        · show ((g, k) : Spot) = (-(0 - g), k)
          rw [Int.zero_sub, Int.neg_neg]
  · rcases List.mem_append.mp hr with hr | hr
    · exact ok.ne r hr
    · simp only [List.mem_cons, List.not_mem_nil, or_false] at hr
      rcases hr with rfl | rfl
      · intro e
        have e1 : g = 0 := congrArg Prod.fst e
        have e2 : k = n := congrArg Prod.snd e
        apply d
        rw [e1, e2, Int.add_zero, Int.emod_eq_of_lt a0 a1]
      · intro e
        have e1 : 0 - g = 0 := congrArg Prod.fst e
        have e2 : n = k := congrArg Prod.snd e
        have e3 : g = 0 := by omega
        apply d
        rw [e3, ← e2, Int.add_zero, Int.emod_eq_of_lt a0 a1]
theorem spD_sh {p : Spot} (h : PyData.strOk p.2 = true) : SeqAt.shaped (spD p) = true := by
  show (PyData.canLay0 (spD p) && decide (PyData.depth (spD p) ≤ 64)) = true
  unfold spD
  simp [PyData.canLay0, PyData.canLayAll0, PyData.depth, PyData.depthAll, h]
theorem spD_ne {p q : Spot} : (!PyData.eqv (spD p) (spD q)) = decide (p ≠ q) := by
  obtain ⟨a, b⟩ := p
  obtain ⟨c, d⟩ := q
  unfold spD
  by_cases e1 : a = c <;> by_cases e2 : b = d <;> simp [PyData.eqv, PyData.eqvAll, e1, e2]
theorem dp_spot {K : PySem.W.Frag} {H : Hp} {u : Addr} {p : Spot} (h : H u = some (.tup [.int p.1, .str p.2])) : Dp K H (.ref u) (spD p) := .tup (SqT.of h) (.cons (.int _) (.cons (.str _) .nil))
theorem val_none {R : List Row} {p : Spot} : valV (R.map fun r => (tk r.1, V.ref r.2.1)) (tk p) = none ↔ ∀ r ∈ R, r.1 ≠ p := by
  rw [valV_tk, Option.map_eq_none_iff]
  exact find_none
/-- another row put at the end -/
theorem MT.put {H : Hp} {d : Addr} {R : List Row} {p : Spot} {q : Addr} {v : Spot} (h : MT H d R) (f : ∀ r ∈ R, r.1 ≠ p) (hq : H q = some (.tup [.int v.1, .str v.2])) :
    MT (upd H d (.dT (putK (R.map fun r => (tk r.1, V.ref r.2.1)) (tk p) (.ref q)))) d (R ++ [(p, q, v)]) := by
  have e : putK (R.map fun r => (tk r.1, V.ref r.2.1)) (tk p) (.ref q) = (R ++ [(p, q, v)]).map fun r => (tk r.1, V.ref r.2.1) := by
    rw [List.map_append, L2.putK_new _ (val_none.mpr f)]
    rfl
  refine ⟨by rw [e]; exact upd_same, fun r hr => ?_⟩
  have ne : ∀ {x : Addr} {xs : List V}, H x = some (.tup xs) → x ≠ d := fun hx z => by rw [z, h.1] at hx; cases hx
  rcases List.mem_append.mp hr with hr | hr
  · exact (upd_ne (ne (h.2 r hr))).trans (h.2 r hr)
  · rw [List.mem_singleton.mp hr]
    exact (upd_ne (ne hq)).trans hq
section
variable {P : Program} {w : World} {K : PySem.W.Frag} {mg : Str → Option Value} {base : Heap}
def spMates (K : PySem.W.Frag) : Sp := fun vs H Q _ => ∃ p a ns m lot, vs = [.ref p, .ref a, .int m, .int lot] ∧ H p = some (PotO p) ∧ H a = some (.lst (ns.map V.str)) ∧ NsOk ns ∧ 1 ≤ ns.length ∧ ns.length ≤ 5 ∧ 1 ≤ m ∧ m ≤ 500 ∧ 0 ≤ lot ∧ lot ≤ 40 ∧
  ∀ d R H', L2.Same H H' → H d = none → MT H' d R → MOk m ns R → (R.length : Int) ≤ 2 * lot → Q (.ref d) H'
theorem d_mates (T : Txt K mg) : Df P w K mg base 4 "_law_mates" ["_law_pot_here", "_law_labels", "_law_span", "_law_lot"] (spMates K) := by
  have D_l_draw := d_draw (P := P) (w := w) (base := base) T
  have D_l_pick := d_among (P := P) (w := w) (base := base) T
  refine T.S_l_mates.by sc_l_mates (fun vs H Q E h => ?_) (fun f cdv A outer s H vs Q E hr hgd h => ?_)
  · obtain ⟨p, a, ns, m, lot, rfl, _⟩ := h; rfl
  · obtain ⟨p, a, ns, m, lot, rfl, hp, ha, nok, n1, n5, m1, m5, lo0, lo4, k⟩ := h
    refine ⟨_, (pss_cons (ps_set (i := 4) sc_l_mates.nd rfl (by first | exact Or.inl rfl | exact Or.inr rfl) (pe_dnewT))
      (pss_cons (ps_for PassesOwn.never rfl (pi_range1 (by rfl) T.n_range (pa_cons (pe_own D_l_draw (hr.mono (by first | decide | omega)) hgd (pa_cons (pv 0) (pa_cons (pe_op op_add (pv 3) pe_int) pa_nil))) pa_nil)) (pg_name (i := 5) sc_l_mates.nd rfl (by first | exact Or.inl rfl | exact Or.inr rfl)) (pss_cons (ps_par (i := 6) (j := 7) rfl sc_l_mates.nd rfl rfl (by decide) rfl rfl (pa_cons (pe_own D_l_draw (hr.mono (by first | decide | omega)) hgd (pa_cons (pv 0) (pa_cons (pv 2) pa_nil))) (pa_cons (pe_own D_l_pick (hr.mono (by first | decide | omega)) hgd (pa_cons (pv 0) (pa_cons (pv 1) pa_nil))) pa_nil)) (by first | rfl | with_unfolding_all rfl))
      (pss_cons (ps_par (i := 8) (j := 9) rfl sc_l_mates.nd rfl rfl (by decide) rfl rfl (pa_cons (pe_own D_l_pick (hr.mono (by first | decide | omega)) hgd (pa_cons (pv 0) (pa_cons (pe_lst (pa_cons pe_int (pa_cons pe_int (pa_cons (pe_un un_neg pe_int) (pa_cons pe_int (pa_cons pe_int (pa_cons (pe_un un_neg pe_int) (pa_cons pe_int pa_nil)))))))) pa_nil))) (pa_cons (pe_own D_l_pick (hr.mono (by first | decide | omega)) hgd (pa_cons (pv 0) (pa_cons (pv 1) pa_nil))) pa_nil)) (by first | rfl | with_unfolding_all rfl))
      (pss_cons (ps_set (i := 10) sc_l_mates.nd rfl (by first | exact Or.inl rfl | exact Or.inr rfl) (pe_op op_mod (pe_callTy call_int1 (by rfl) T.n_int (by decide +kernel) (pa_cons (pe_op op_add (pv 6) (pv 8)) pa_nil)) (pv 2)))
      (pss_one (ps_if (PW.pt (pw_and (pt_cmpR (op_neD (un64 hr)) (pe_tup (pa_cons (pv 6) (pa_cons (pv 7) pa_nil))) (pe_tup (pa_cons (pv 10) (pa_cons (pv 9) pa_nil))) (nomark _)) (pw_and (pt_cmp (pc_dnotin (hu_of hr) (pe_tup (pa_cons (pv 6) (pa_cons (pv 7) pa_nil))) (pv 4))) (pw_and1 (pt_cmp (pc_dnotin (hu_of hr) (pe_tup (pa_cons (pv 10) (pa_cons (pv 9) pa_nil))) (pv 4))))))) (pss_cons (ps_dput (hu_of hr) (pv 4) (pe_tup (pa_cons (pv 6) (pa_cons (pv 7) pa_nil))) (pe_tup (pa_cons (pv 8) (pa_cons (pv 9) pa_nil))) rfl)
      (pss_one (ps_dput (hu_of hr) (pv 4) (pe_tup (pa_cons (pv 10) (pa_cons (pv 9) pa_nil))) (pe_tup (pa_cons (pe_op op_sub pe_int (pv 8)) (pa_cons (pv 7) pa_nil))) rfl))) pss_nil))))))
      (pss_one (ps_ret (pv 4))))), ?_⟩
    intro d nd
    have s0 := Same.new (o := .dT []) nd
    have hd0 : (upd H d (.dT [])) d = some (.dT []) := upd_same
    refine ⟨_, rfl, _, rfl, lot, 1, rfl, rfl, p, lot + 1, rfl, s0 _ _ hp, by omega, Int.lt_of_le_of_lt (b := 64) (by omega) (by decide), fun n H1 n0 nl s1 => ?_⟩
    refine ⟨n, rfl, by omega, by omega, ?_⟩
    refine for_it walk_range (fun i σ H' => ∃ s5 s6 s7 s8 s9 s10 : Option V, σ = [some (.ref p), some (.ref a), some (.int m), some (.int lot), some (.ref d), s5, s6, s7, s8, s9, s10] ∧ L2.Same H H' ∧ ∃ R, MT H' d R ∧ MOk m ns R ∧ R.length ≤ 2 * i)
      ⟨_, _, _, _, _, _, rfl, s0.trans s1, [], ⟨s1 _ _ hd0, fun r hr => absurd hr List.not_mem_nil⟩, ⟨List.nodup_nil, fun r hr => absurd hr List.not_mem_nil, fun r hr => absurd hr List.not_mem_nil, fun r hr => absurd hr List.not_mem_nil, fun r hr => absurd hr List.not_mem_nil⟩, Nat.le_refl _⟩ (fun _ _ _ _ _ => trivial) (fun i x σ J J2 hi hP y => ?_) (fun σ J hP => ?_)
    · obtain ⟨s5, s6, s7, s8, s9, s10, rfl, sJ, R, mt, ok, lR⟩ := hP
      obtain ⟨rfl, rfl⟩ := y
      have hi40 : i < 41 := by omega
      refine ⟨_, rfl, _, rfl, p, m, rfl, sJ _ _ hp, by omega, Int.lt_of_le_of_lt (b := 600) (by omega) (by decide), fun at_ J3 a0 a1 s3 => ?_⟩
      have t3 := sJ.trans s3
      refine ⟨_, rfl, _, rfl, p, a, _, rfl, t3 _ _ hp, SqL.of (t3 _ _ ha), by rw [List.length_map]; omega, by rw [List.length_map]; omega, fun lv J4 hlv s4 => ?_⟩
      obtain ⟨lab, hlab, rfl⟩ := List.mem_map.mp hlv
      have t4 := t3.trans s4
      refine ⟨_, _, rfl, ?_⟩
      refine ⟨_, rfl, 1, rfl, 5, rfl, by show (7 : Nat) ≤ sizeLine; decide +kernel, fun lq nlq => ?_⟩
      have t5 := t4.trans (Same.new (o := .lst [V.int 1, V.int 0, V.int (-1), V.int 2, V.int 3, V.int (-5), V.int 60]) nlq)
      refine ⟨p, lq, [V.int 1, V.int 0, V.int (-1), V.int 2, V.int 3, V.int (-5), V.int 60], rfl, t5 _ _ hp, SqL.of upd_same, by decide, by show (7 : Nat) ≤ 100000; decide, fun gv J5 hgv s5 => ?_⟩
      obtain ⟨gap, rfl, g0, g1⟩ : ∃ g : Int, gv = .int g ∧ -60 ≤ g ∧ g ≤ 60 := by
        simp only [List.mem_cons, List.not_mem_nil, or_false] at hgv
        rcases hgv with rfl | rfl | rfl | rfl | rfl | rfl | rfl <;> exact ⟨_, rfl, by decide, by decide⟩
      have t6 := t5.trans s5
      refine ⟨_, rfl, _, rfl, p, a, _, rfl, t6 _ _ hp, SqL.of (t6 _ _ ha), by rw [List.length_map]; omega, by rw [List.length_map]; omega, fun mv J6 hmv s6 => ?_⟩
      obtain ⟨mat, hmat, rfl⟩ := List.mem_map.mp hmv
      have t7 := t6.trans s6
      have mt7 : MT J6 d R := mt.same (s3.trans (s4.trans ((Same.new nlq).trans (s5.trans s6))))
      refine ⟨_, _, rfl, ?_⟩
      refine ⟨_, rfl, _, rfl, at_, gap, rfl, rfl, .inl ⟨at_ + gap, rfl, _, rfl, at_ + gap, m, rfl, rfl, by omega, ?_⟩⟩
      have wl : Wd lab := nok.ok _ hlab
      have wm : Wd mat := nok.ok _ hmat
      have mtl := mt7.1
      refine ⟨_, rfl, _, rfl, by show (2 : Nat) ≤ sizeLine; decide +kernel, fun u1 nu1 => ?_⟩
      refine ⟨_, rfl, _, rfl, by show (2 : Nat) ≤ sizeLine; decide +kernel, fun u2 nu2 => ?_⟩
      have r2 := (Same.new (o := .tup [V.int at_, V.str lab]) nu1).trans (Same.new (o := .tup [V.int ((at_ + gap) % m), V.str mat]) nu2)
      have hu1 := Same.new (o := .tup [V.int ((at_ + gap) % m), V.str mat]) nu2 u1 _ upd_same
      refine ⟨spD (at_, lab), spD ((at_ + gap) % m, mat), dp_spot hu1, dp_spot upd_same, spD_sh wl.ok, spD_sh wm.ok, _, rfl, ?_⟩
      rw [spD_ne]
      have mt8 := mt7.same r2
      have t8 := t7.trans r2
      generalize upd (upd J6 u1 (.tup [V.int at_, V.str lab])) u2 (.tup [V.int ((at_ + gap) % m), V.str mat]) = J8 at mt8 t8
      have skip_ : ∀ {J' : Hp}, L2.Same J8 J' → ∃ s5 s6 s7 s8 s9 s10 : Option V, [some (.ref p), some (.ref a), some (.int m), some (.int lot), some (.ref d), some (V.int (0 + (i : Int))), some (.int at_), some (.str lab), some (.int gap), some (.str mat), some (V.int ((at_ + gap) % m))] = [some (.ref p), some (.ref a), some (.int m), some (.int lot), some (.ref d), s5, s6, s7, s8, s9, s10] ∧ L2.Same H J' ∧ ∃ R, MT J' d R ∧ MOk m ns R ∧ R.length ≤ 2 * (i + 1) :=
        fun s => ⟨_, _, _, _, _, _, rfl, t8.trans s, R, mt8.same s, ok, by omega⟩
      by_cases c0 : ((at_, lab) : Spot) = ((at_ + gap) % m, mat)
      · rw [decide_eq_false (fun z => z c0)]
        exact iteF (iteF (skip_ (Same.refl _)))
      rw [decide_eq_true c0]
      refine iteT ?_
      refine ⟨_, rfl, _, rfl, by show (2 : Nat) ≤ sizeLine; decide +kernel, fun u3 nu3 => ?_⟩
      have r3 := Same.new (o := .tup [V.int at_, V.str lab]) nu3
      refine ⟨_, rfl, d, _, rfl, .inr ⟨_, tk (at_, lab), u3, .inl (r3 _ _ mt8.1), rfl, upd_same, rfl⟩, _, rfl, ?_⟩
      obtain ⟨o1, ho1⟩ : ∃ o1, valV (R.map fun r => (tk r.1, V.ref r.2.1)) (tk (at_, lab)) = o1 := ⟨_, rfl⟩
      rw [ho1]
      cases o1 with
      | some v => exact iteF (iteF (skip_ r3))
      | none =>
        have f1 := val_none.mp ho1
        refine iteT ?_
        refine ⟨_, rfl, _, rfl, by show (2 : Nat) ≤ sizeLine; decide +kernel, fun u4 nu4 => ?_⟩
        have r4 := r3.trans (Same.new (o := .tup [V.int ((at_ + gap) % m), V.str mat]) nu4)
        refine ⟨_, rfl, d, _, rfl, .inr ⟨_, tk ((at_ + gap) % m, mat), u4, .inl (r4 _ _ mt8.1), rfl, upd_same, rfl⟩, _, rfl, ?_⟩
        obtain ⟨o2, ho2⟩ : ∃ o2, valV (R.map fun r => (tk r.1, V.ref r.2.1)) (tk ((at_ + gap) % m, mat)) = o2 := ⟨_, rfl⟩
        rw [ho2]
        cases o2 with
        | some v => exact iteF (skip_ r4)
        | none =>
          have f2 := val_none.mp ho2
          refine iteT ?_
          have mt9 := mt8.same r4
          have t9 := t8.trans r4
          generalize upd (upd J8 u3 (.tup [V.int at_, V.str lab])) u4 (.tup [V.int ((at_ + gap) % m), V.str mat]) = J9 at mt9 t9
          clear skip_ r4 r3
          refine ⟨_, rfl, _, rfl, by show (2 : Nat) ≤ sizeLine; decide +kernel, fun q1 nq1 => ?_⟩
          refine ⟨_, rfl, _, rfl, _, rfl, by show (2 : Nat) ≤ sizeLine; decide +kernel, fun k1 nk1 => ?_⟩
          have hq1 := Same.new (o := .tup [V.int at_, V.str lab]) nk1 q1 (.tup [V.int gap, V.str mat]) upd_same
          have w1 := (Same.new (o := .tup [V.int gap, V.str mat]) nq1).trans (Same.new (o := .tup [V.int at_, V.str lab]) nk1)
          have mtA := mt9.same w1
          have ls : (R.map fun r => (tk r.1, V.ref r.2.1)).length + 5 < sizeLine := by
            rw [List.length_map]
            exact Nat.lt_of_le_of_lt (m := 200) (by omega) (by decide +kernel)
          refine ⟨d, _, rfl, .inr ⟨_, tk (at_, lab), k1, mtA.1, rfl, upd_same, by omega, rfl⟩, ?_⟩
          have mtB := mtA.put (p := (at_, lab)) (v := (gap, mat)) f1 hq1
          have tB : L2.Same H _ := Same.mut (o := .dT (putK (R.map fun r => (tk r.1, V.ref r.2.1)) (tk (at_, lab)) (.ref q1))) (t9.trans w1) nd
          generalize upd (upd (upd J9 q1 (.tup [V.int gap, V.str mat])) k1 (.tup [V.int at_, V.str lab])) d (.dT (putK (R.map fun r => (tk r.1, V.ref r.2.1)) (tk (at_, lab)) (.ref q1))) = JB at mtB tB
          refine ⟨_, rfl, 0, gap, rfl, rfl, _, rfl, by show (2 : Nat) ≤ sizeLine; decide +kernel, fun q2 nq2 => ?_⟩
          refine ⟨_, rfl, _, rfl, _, rfl, by show (2 : Nat) ≤ sizeLine; decide +kernel, fun k2 nk2 => ?_⟩
          have hq2 := Same.new (o := .tup [V.int ((at_ + gap) % m), V.str mat]) nk2 q2 (.tup [V.int (0 - gap), V.str lab]) upd_same
          have w2 := (Same.new (o := .tup [V.int (0 - gap), V.str lab]) nq2).trans (Same.new (o := .tup [V.int ((at_ + gap) % m), V.str mat]) nk2)
          have mtC := mtB.same w2
          have f3 : ∀ r ∈ R ++ [((at_, lab), q1, (gap, mat))], r.1 ≠ ((at_ + gap) % m, mat) := fun r hr => by
            rcases List.mem_append.mp hr with hr | hr
            · exact f2 r hr
            · rw [List.mem_singleton.mp hr]
              exact c0
          have ls2 : ((R ++ [((at_, lab), q1, (gap, mat))] : List Row).map fun r => (tk r.1, V.ref r.2.1)).length < sizeLine := by
            rw [List.length_map] at ls
            rw [List.length_map, List.length_append]
            show R.length + 1 < sizeLine
            omega
          refine ⟨d, _, rfl, .inr ⟨_, tk ((at_ + gap) % m, mat), k2, mtC.1, rfl, upd_same, ls2, rfl⟩, ?_⟩
          have mtD := mtC.put (p := ((at_ + gap) % m, mat)) (v := (0 - gap, lab)) f3 hq2
          rw [List.append_assoc] at mtD
          exact ⟨_, _, _, _, _, _, rfl, Same.mut (tB.trans w2) nd, _, mtD, ok.put m1 a0 a1 hlab hmat g0 g1 c0 f1 f2, by rw [List.length_append]; show R.length + 2 ≤ 2 * (i + 1); omega⟩
    · obtain ⟨s5, s6, s7, s8, s9, s10, rfl, sJ, R, mt, ok, lR⟩ := hP
      exact ⟨_, rfl, k d R J sJ nd mt ok (by omega)⟩
end
end K63

set_option Elab.async false
set_option linter.all false
set_option maxRecDepth 100000
set_option maxHeartbeats 4000000
namespace K63
open PySem L2 Lay Own SrtO
local macro_rules | `(tactic| walk_at "ne") => `(tactic| first | assumption | (apply Ne.symm; assumption) | exact ne_of_none (by walk_at "look") (by assumption) | exact (ne_of_none (by walk_at "look") (by assumption)).symm)
local macro_rules | `(tactic| walk_at "look") => `(tactic| first | assumption | exact upd_same | (refine Eq.trans (upd_ne ?_) ?_; walk_at "ne"; walk_at "look"))
local macro_rules | `(tactic| walk_at "rds") => `(tactic| first | rfl | assumption | walk_at "look" | exact SqL.of (by walk_at "look") | exact SqT.of (by walk_at "look") | exact Or.inl (SqL.of (by walk_at "look")) | exact Or.inl (by assumption) | decide | omega | exact Nat.le_of_ble_eq_true rfl | exact Or.inr ⟨by decide, by decide⟩ | exact Or.inl ⟨by omega, by omega⟩ | exact ⟨by decide, by decide⟩)
local macro_rules | `(tactic| walk_at "rd1") => `(tactic| first | (apply Exists.intro) | (refine And.intro ?_ ?_; walk_at "rds") | (refine Or.inl ?_; apply Exists.intro; refine And.intro ?_ ?_; rfl))
local macro_rules | `(tactic| walk_at "rd") => `(tactic| repeat walk_at "rd1")
section
variable {P : Program} {w : World} {K : PySem.W.Frag} {mg : Str → Option Value} {base : Heap}
theorem row_val : ∀ {R : List Row} {r : Row}, (R.map (·.1)).Nodup → r ∈ R → valV (R.map fun r => (tk r.1, V.ref r.2.1)) (tk r.1) = some (.ref r.2.1) := by
  intro R r nd hr
  rw [valV_tk]
  induction R with
  | nil => cases hr
  | cons q R ih =>
    rw [List.map_cons, List.nodup_cons] at nd
    rw [List.find?_cons]
    rcases List.mem_cons.mp hr with e | hr
    · rw [← e, decide_eq_true rfl]
      rfl
    · by_cases c : q.1 = r.1
      · exact absurd (List.mem_map.mpr ⟨r, hr, c.symm⟩) nd.1
      · rw [decide_eq_false c]
        exact ih nd.2 hr
/-- the partner that is told, in the heap -/
def PV (H : Hp) (o : Option Spot) (v : V) : Prop := match o with
  | none => v = .non
  | some s => ∃ u, v = .ref u ∧ H u = some (.tup [.int s.1, .str s.2])
def mate (m : Int) (R : List Row) (p : Spot) : Option Spot := (R.find? fun r => decide (r.1 = (p.1 % m, p.2))).map fun r => (p.1 + r.2.2.1, r.2.2.2)
def spMate : Sp := fun vs H Q _ => ∃ d m R i n, vs = [.int m, .ref d, .int i, .str n] ∧ MT H d R ∧ 1 ≤ m ∧ ∀ v H', L2.Same H H' → PV H' (mate m R (i, n)) v → Q v H'
theorem d_mate (T : Txt K mg) : Df P w K mg base 1 "_law_mate" ["_law_span", "_law_mates_here", "_law_at", "_law_label"] spMate := by
  refine T.S_l_mate.by sc_l_mate (fun vs H Q E h => ?_) (fun f cdv A outer s H vs Q E hr hgd h => ?_)
  · obtain ⟨d, m, R, i, n, rfl, _⟩ := h; rfl
  · obtain ⟨d, m, R, i, n, rfl, mt, m1, k⟩ := h
    refine ⟨_, (pss_cons (ps_set (i := 4) sc_l_mate.nd rfl (by first | exact Or.inl rfl | exact Or.inr rfl) (pe_dget2 (hu_of hr) (pv 1) (pe_tup (pa_cons (pe_op op_mod (pe_callTy call_int1 (by rfl) T.n_int (by decide +kernel) (pa_cons (pv 2) pa_nil)) (pv 0)) (pa_cons (pv 3) pa_nil))) pe_non ⟨rfl, rfl, rfl, rfl⟩))
      (pss_one (ps_ret (pe_ifExp (pt_cmpR op_isN (pv 4) pe_non (nomark _)) pe_non (pe_tup (pa_cons (pe_op op_add (pv 2) (pe_ix ix_tup (pv 4) pe_int (fun _ _ => rfl))) (pa_cons (pe_ix ix_tup (pv 4) pe_int (fun _ _ => rfl)) pa_nil))))))), ?_⟩
    refine ⟨_, rfl, d, rfl, .inr ⟨_, .inl mt.1⟩, _, rfl, .inl ⟨i, rfl, _, rfl, i, m, rfl, rfl, by omega, _, rfl, by show (2 : Nat) ≤ sizeLine; decide +kernel, fun u nu => ?_⟩⟩
    have s1 := Same.new (o := .tup [V.int (i % m), V.str n]) nu
    refine ⟨_, .inr ⟨_, tk (i % m, n), u, .inl (s1 _ _ mt.1), rfl, upd_same, rfl⟩, ?_⟩
    have mt1 := mt.same s1
    generalize upd H u (.tup [V.int (i % m), V.str n]) = H1 at mt1 s1
    have em : mate m R (i, n) = (R.find? fun r => decide (r.1 = (i % m, n))).map fun r => (i + r.2.2.1, r.2.2.2) := rfl
    rw [valV_tk]
    cases hf : R.find? fun r => decide (r.1 = (i % m, n)) with
    | none =>
      rw [hf] at em
      refine ⟨_, rfl, rfl, _, rfl, iteT ?_⟩
      exact k _ _ s1 (by rw [em]; rfl)
    | some r =>
      rw [hf] at em
      have hr1 := mt1.2 r (List.mem_of_find?_eq_some hf)
      refine ⟨_, rfl, rfl, _, rfl, iteF ?_⟩
      refine ⟨_, rfl, _, rfl, r.2.1, _, 0, _, rfl, rfl, SqT.of hr1, rfl, i, r.2.2.1, rfl, rfl, _, rfl, r.2.1, _, 1, _, rfl, rfl, SqT.of hr1, rfl, by show (2 : Nat) ≤ sizeLine; decide +kernel, fun q nq => ?_⟩
      exact k _ _ (s1.trans (Same.new nq)) (by rw [em]; exact ⟨q, rfl, upd_same⟩)
/-- the same, though it may be locked -/
def MTR (H : Hp) (d : Addr) (R : List Row) : Prop := Rd H d (.dT (R.map fun r => (tk r.1, V.ref r.2.1))) ∧ ∀ r ∈ R, H r.2.1 = some (.tup [.int r.2.2.1, .str r.2.2.2])
theorem MTR.same {H H' : Hp} {d : Addr} {R : List Row} (h : MTR H d R) (s : L2.Same H H') : MTR H' d R := by
  refine ⟨?_, fun r hr => s _ _ (h.2 r hr)⟩
  rcases h.1 with h | ⟨o, h⟩
  · exact .inl (s _ _ h)
  · exact .inr ⟨o, s _ _ h⟩
def spBack : Sp := fun vs H Q _ => ∃ d m ns R r u, vs = [.int m, .ref d, .ref u] ∧ MTR H d R ∧ MOk m ns R ∧ NsOk ns ∧ r ∈ R ∧ H u = some (.tup [.int r.1.1, .str r.1.2]) ∧ 1 ≤ m ∧ ∀ H', L2.Same H H' → Q (.bl true) H'
theorem d_leads_back (T : Txt K mg) : Df P w K mg base 1 "leads_back" ["period", "partners", "at"] spBack := by
  refine T.S_leads_back.by sc_leads_back (fun vs H Q E h => ?_) (fun f cdv A outer s H vs Q E hr hgd h => ?_)
  · obtain ⟨d, m, ns, R, r, u, rfl, _⟩ := h; rfl
  · obtain ⟨d, m, ns, R, r, u, rfl, mt, ok, nok, hr_, hu, m1, k⟩ := h
    refine ⟨_, (pss_cons (ps_asg (pv 2) (pg_tup rfl (pgs_cons (pg_name (i := 3) sc_leads_back.nd rfl (by first | exact Or.inl rfl | exact Or.inr rfl)) (pgs_cons (pg_name (i := 4) sc_leads_back.nd rfl (by first | exact Or.inl rfl | exact Or.inr rfl)) pgs_nil))))
      (pss_cons (ps_asg (pe_dget (hu_of hr) (pv 1) (pv 2) (fun _ _ => rfl)) (pg_tup rfl (pgs_cons (pg_name (i := 5) sc_leads_back.nd rfl (by first | exact Or.inl rfl | exact Or.inr rfl)) (pgs_cons (pg_name (i := 6) sc_leads_back.nd rfl (by first | exact Or.inl rfl | exact Or.inr rfl)) pgs_nil))))
      (pss_cons (ps_set (i := 7) sc_leads_back.nd rfl (by first | exact Or.inl rfl | exact Or.inr rfl) (pe_tup (pa_cons (pe_op op_mod (pe_op op_add (pv 3) (pv 5)) (pv 0)) (pa_cons (pv 6) pa_nil))))
      (pss_one (ps_ret (pe_and (pe_cmp (pc_din (hu_of hr) (pv 7) (pv 1)) rfl) (pe_and (pe_cmpR (op_eqD (un64 hr)) (pe_dget (hu_of hr) (pv 1) (pv 7) (fun _ _ => rfl)) (pe_tup (pa_cons (pe_un un_neg (pv 5)) (pa_cons (pv 4) pa_nil))) (nomark _)) (pe_one (pe_cmpR (op_neD (un64 hr)) (pe_tup (pa_cons (pv 5) (pa_cons (pv 6) pa_nil))) (pe_tup (pa_cons pe_int (pa_cons (pv 4) pa_nil))) (nomark _)))))))))), ?_⟩
    obtain ⟨qb, hqb, eb1, eb2⟩ := ok.back r hr_
    have v1 := row_val ok.nd hr_
    have v2 := row_val ok.nd hqb
    rw [eb1] at v2
    refine ⟨_, rfl, u, _, rfl, SqT.of hu, rfl, _, _, rfl, _, _, rfl, rfl, ?_⟩
    refine ⟨_, rfl, _, rfl, d, .ref r.2.1, rfl, .inr ⟨_, tk r.1, u, mt.1, rfl, hu, v1.symm⟩, r.2.1, _, rfl, SqT.of (mt.2 r hr_), rfl, _, _, rfl, _, _, rfl, rfl, ?_⟩
    refine ⟨_, rfl, _, rfl, r.1.1, r.2.2.1, rfl, rfl, _, rfl, r.1.1 + r.2.2.1, m, rfl, rfl, by omega, _, rfl, by show (2 : Nat) ≤ sizeLine; decide +kernel, fun b nb => ?_⟩
    have s1 := Same.new (o := .tup [V.int ((r.1.1 + r.2.2.1) % m), V.str r.2.2.2]) nb
    have hb : (upd H b (.tup [V.int ((r.1.1 + r.2.2.1) % m), V.str r.2.2.2])) b = some (.tup [V.int ((r.1.1 + r.2.2.1) % m), V.str r.2.2.2]) := upd_same
    have mt1 := mt.same s1
    generalize upd H b (.tup [V.int ((r.1.1 + r.2.2.1) % m), V.str r.2.2.2]) = H1 at s1 hb mt1
    have dg : DGet H1 d (.ref b) (some (.ref qb.2.1)) := .inr ⟨_, tk ((r.1.1 + r.2.2.1) % m, r.2.2.2), b, mt1.1, rfl, hb, v2.symm⟩
    refine ⟨_, rfl, _, rfl, d, _, rfl, dg, true, rfl, iteT ?_⟩
    have hqv := mt1.2 qb hqb
    rw [eb2] at hqv
    have wn : Wd r.1.2 := nok.ok _ (ok.at_ r hr_).2.2
    have wo : Wd r.2.2.2 := nok.ok _ (ok.go r hr_).2.2
    refine ⟨_, rfl, _, rfl, d, _, rfl, dg, _, rfl, r.2.2.1, rfl, _, rfl, by show (2 : Nat) ≤ sizeLine; decide +kernel, fun c nc => ?_⟩
    have s2 := Same.new (o := .tup [V.int (-r.2.2.1), V.str r.1.2]) nc
    refine ⟨spD (-r.2.2.1, r.1.2), spD (-r.2.2.1, r.1.2), dp_spot (s2 _ _ hqv), dp_spot upd_same, spD_sh wn.ok, spD_sh wn.ok, ?_⟩
    have ee : PyData.eqv (spD (-r.2.2.1, r.1.2)) (spD (-r.2.2.1, r.1.2)) = true := by
      have z := spD_ne (p := (-r.2.2.1, r.1.2)) (q := (-r.2.2.1, r.1.2))
      rw [decide_eq_false (fun h => h rfl)] at z
      simpa using z
    rw [ee]
    refine ⟨true, rfl, iteT ?_⟩
    refine ⟨_, rfl, _, rfl, by show (2 : Nat) ≤ sizeLine; decide +kernel, fun e ne => ?_⟩
    have s3 := s2.trans (Same.new (o := .tup [V.int r.2.2.1, V.str r.2.2.2]) ne)
    refine ⟨_, rfl, by show (2 : Nat) ≤ sizeLine; decide +kernel, fun g ng => ?_⟩
    have s4 := s3.trans (Same.new (o := .tup [V.int 0, V.str r.1.2]) ng)
    refine ⟨spD r.2.2, spD (0, r.1.2), dp_spot (Same.new ng _ _ upd_same), dp_spot upd_same, spD_sh wo.ok, spD_sh wn.ok, ?_⟩
    rw [spD_ne, decide_eq_true (ok.ne r hr_)]
    exact k _ (s1.trans s4)
end
end K63

set_option Elab.async false
set_option linter.all false
set_option maxRecDepth 100000
set_option maxHeartbeats 4000000
namespace K63
open PySem L2 Lay Own SrtO
local macro_rules | `(tactic| walk_at "ne") => `(tactic| first | assumption | (apply Ne.symm; assumption) | exact ne_of_none (by walk_at "look") (by assumption) | exact (ne_of_none (by walk_at "look") (by assumption)).symm)
local macro_rules | `(tactic| walk_at "look") => `(tactic| first | assumption | exact upd_same | (refine Eq.trans (upd_ne ?_) ?_; walk_at "ne"; walk_at "look"))
local macro_rules | `(tactic| walk_at "rds") => `(tactic| first | rfl | assumption | walk_at "look" | exact SqL.of (by walk_at "look") | exact SqT.of (by walk_at "look") | exact Or.inl (SqL.of (by walk_at "look")) | exact Or.inl (by assumption) | decide | omega | exact Nat.le_of_ble_eq_true rfl | exact Or.inr ⟨by decide, by decide⟩ | exact Or.inl ⟨by omega, by omega⟩ | exact ⟨by decide, by decide⟩)
local macro_rules | `(tactic| walk_at "rd1") => `(tactic| first | (apply Exists.intro) | (refine And.intro ?_ ?_; walk_at "rds") | (refine Or.inl ?_; apply Exists.intro; refine And.intro ?_ ?_; rfl))
local macro_rules | `(tactic| walk_at "rd") => `(tactic| repeat walk_at "rd1")
section
variable {P : Program} {w : World} {K : PySem.W.Frag} {mg : Str → Option Value} {base : Heap}
/-- a row as a pair of tuples -/
def PR (H : Hp) (v : V) (r : Row) : Prop := ∃ t k, v = .ref t ∧ H t = some (.tup [.ref k, .ref r.2.1]) ∧ H k = some (.tup [.int r.1.1, .str r.1.2])
theorem PR.same {H H' : Hp} {v : V} {r : Row} (h : PR H v r) (s : L2.Same H H') : PR H' v r := by
  obtain ⟨t, k, e, h1, h2⟩ := h
  exact ⟨t, k, e, s _ _ h1, s _ _ h2⟩
theorem PR.mut {H : Hp} {D : Addr} {xs ys : List V} {v : V} {r : Row} (hD : H D = some (.lst xs)) (h : PR H v r) : PR (upd H D (.lst ys)) v r := by
  obtain ⟨t, k, e, h1, h2⟩ := h
  exact ⟨t, k, e, (upd_ne fun z => by rw [z, hD] at h1; cases h1).trans h1, (upd_ne fun z => by rw [z, hD] at h2; cases h2).trans h2⟩
end
end K63

set_option Elab.async false
set_option linter.all false
set_option maxRecDepth 100000
set_option maxHeartbeats 4000000
namespace Tv
open PySem L2 Lay Own PySem.Spec PyProof.Rows
/-! ### for v in d.values(), d a dict with tuples for keys -/
section
variable {X : Cx} {pins : List (Addr × Obj)} {σ : L2.St} {H : Hp} {s : Shared} {d : Addr} {o : Obj}
theorem frzV {kvs : List (List Key × V)} (I : Inv X pins σ H s) (h : H d = some (.frz o (.dT kvs))) :
    (d == sysModules) = false ∧ ∃ (es : Array DictEntry) (ep : Nat), s.heap.DictRaw d es ep ∧ o.data = .dict es ep ∧ es.size = kvs.length ∧
      ∀ (i : Nat) (k : List Key) (v : V), kvs[i]? = some (k, v) → ∃ en : DictEntry, es[i]? = some en ∧ RelV v en.val := by
  obtain ⟨hd, z, hs, xs, pr, o', es, ep, ho, hx, hdt, he, _⟩ := I.hok d _ h
  have ho' := ho
  rw [hd] at ho
  cases ho
  refine ⟨hs, es, ep, ⟨o, hd, hx, hdt⟩, hdt, ?_, fun i k v e => ?_⟩
  · have l1 : es.size = xs.length := size_of_entries he
    have l2 : kvs.length = xs.length := Paired.length pr
    omega
  · obtain ⟨b, hb, e1, e2, e3⟩ := paired_get pr e
    have q := entry_at he i
    rw [hb] at q
    exact ⟨_, q, e3⟩
end
/-- the values, in their order -/
def Itv (d : Addr) (o : Obj) (kvs : List (List Key × V)) : L2.It :=
  ⟨fun i H => H d = some (.frz o (.dT kvs)) ∧ i < kvs.length, fun i H x H' => H' = H ∧ ∃ k, kvs[i]? = some (k, x), fun i H => H d = some (.frz o (.dT kvs)) ∧ kvs.length ≤ i⟩
section
variable {P : Program} {w : World} {K : PySem.W.Frag} {tg : Expr} {d : Addr} {o : Obj} {es : Array DictEntry} {ep : Nat}
theorem turn_valsT {kvs : List (List Key × V)} (it : Addr) (hod : o.data = .dict es ep) : Turn P w K tg (Itv d o kvs) [it] it (fun i h => h.IsValIter it d i kvs.length ep) where
  mem := by simp
  obj := fun i h st b hb => by
    have e : b = it := by simpa using hb
    subst e
    obtain ⟨oi, e, c, dd⟩ := st
    exact ⟨oi, e, fun v z => by rw [dd] at z; cases z⟩
  keep := fun i h h' st k => st.at fun oi e => k it (by simp) oi e
  item := by
    intro X hP hw hK hc i pins s σ H E I hf st hg
    subst hP hw hK
    obtain ⟨hd, hi⟩ := hg
    obtain ⟨f0, f1, f2, f3, f4, f5⟩ := hf it (by simp)
    obtain ⟨hs, es', ep', hm, hdt, hsz, ent⟩ := frzV I hd
    obtain ⟨rfl, rfl⟩ := dict_ep hod hdt
    obtain ⟨⟨k, v⟩, hkv⟩ : ∃ p, kvs[i]? = some p := ⟨kvs[i], List.getElem?_eq_getElem hi⟩
    obtain ⟨en, hen, ru⟩ := ent i k v hkv
    obtain ⟨hlt, hen'⟩ := Array.getElem?_eq_some_iff.mp hen
    rw [← hsz] at st
    refine wpAny_pyNext_values_item_raw st hm hlt fun h' st' sb => ?_
    have I1 : Inv X pins σ H { s with heap := h' } := I.turned (t' := s.toks) (fun b ob hb e => (sb.2 b hb).trans e) f0 f1 f3 f4 f5
    obtain ⟨oi, e, c, dd⟩ := id st'
    rw [hen']
    refine ⟨en.val, rfl, go_of (s := { s with heap := h' }) e c dd (by decide) ⟨v, H, I1, ru, ⟨rfl, k, hkv⟩, ?_, fun b hb => (hf b hb).1⟩⟩
    show h'.IsValIter it d (i + 1) kvs.length _
    rw [← hsz]
    exact st'
  done := by
    intro X hP hw hK hc i pins s σ H E I hf st hg
    subst hP hw hK
    obtain ⟨hd, hi⟩ := hg
    obtain ⟨f0, f1, f2, f3, f4, f5⟩ := hf it (by simp)
    obtain ⟨hs, es', ep', hm, hdt, hsz, ent⟩ := frzV I hd
    obtain ⟨rfl, rfl⟩ := dict_ep hod hdt
    rw [← hsz] at st
    exact wpAny_pyNext_values_end_raw (I.ok.hd hc) st hm (by omega) fun h' eb => ⟨rfl, I.turned (t' := s.toks) (fun b ob hb e => eb b ob hb e) f0 f1 f3 f4 f5⟩
  self := fun A i s Q E st h => wpAny_pyIter_valiter st h
end
def iValsT (td : TE) : TI := fun σ H R => td σ H fun x H1 => ∃ d o kvs, x = .ref d ∧ H1 d = some (.frz o (.dT kvs)) ∧ R (Itv d o kvs) H1
section
variable {X : Cx} {tg e : Expr} {td : TE} {apos cpos : Pos}
theorem pi_valuesT (he : PE X e td) (hbase : attributeBase e "values" X.env (eval e X.env) = eval e X.env := by rfl) (hline : (apos.endLine == cpos.line) = true := by rfl) : PI X tg (.Call (.Attribute e "values" apos) [] [] cpos) (iValsT td) := by
  refine ⟨fun pins s σ H R I h => ?_⟩
  refine wpAny_Call_method (T := "dict") (id := "dict.values") hbase rfl hline PySem.F.plainAttrs_dict PySem.F.slot_dict_values PySem.F.type_dict_values (thn (he.run pins s σ H _ I h) fun u s1 ⟨x, H1, I1, rx, d, o, kvs, ex, hd, q⟩ => ?_)
  subst ex
  obtain rfl : u = Value.ref d := rx
  obtain ⟨hs, es, ep, hm, hdt, hsz, ent⟩ := frzV I1 hd
  obtain ⟨od, e1, e2, e3⟩ := id hm
  refine ⟨⟨od, e1, e2.1⟩, fun b e => (by cases e; exact ⟨od, e1, e2.2.1⟩), ?_⟩
  have I2 : Inv X pins σ H1 { s1 with heap := s1.heap.push { cls := .type "dict_values", data := .fields #[.ref d] } } := I1.kept (t' := s1.toks) fun b ob q => Heap.get?_push_of_some _ q
  have hm2 : (s1.heap.push { cls := .type "dict_values", data := .fields #[.ref d] }).DictRaw d es ep := ⟨od, Heap.get?_push_of_some _ e1, e2, e3⟩
  have fin : wpAny (model X.prog X.w) X.A (pyIter (.ref s1.heap.objs.size)) (PIE X pins σ tg R) X.xe { s1 with heap := s1.heap.push { cls := .type "dict_values", data := .fields #[.ref d] } } := by
    refine wpAny_pyIter_values_raw (d := d) ⟨_, Heap.get?_push_size _ rfl, rfl, rfl⟩ hm2 (pi_one (tk := s1.toks) I2 _ (turn_valsT _ hdt) ⟨_, Heap.get?_push_size _ rfl, rfl, ?_⟩ q)
    rw [hsz] <;> rfl
  show wpAny _ _ (callWith cpos (.builtin "dict.values") [.ref d] [] []) _ X.xe s1
  exact method_meetsIn PySem.F.slot_dict_values PySem.F.entry_dict_values rfl (PySem.evalArgs_none ⟨rfl, ⟨od, e1, e2.1⟩, PySem.F.args_dict_values_1 _, _, meets_dict_values_raw d hs, ⟨⟨es, ep, hm⟩, fin⟩⟩)
end
theorem walk_valuesT {d : Addr} {o : Obj} {kvs : List (List Key × V)} : Walk (Itv d o kvs) kvs.length (fun H => H d = some (.frz o (.dT kvs))) (fun i H x H' => H' = H ∧ ∃ k, kvs[i]? = some (k, x)) :=
  ⟨fun _ _ hi q => ⟨q, hi⟩, fun _ q => ⟨q, Nat.le_refl _⟩, fun _ _ _ _ _ _ y => y⟩
end Tv

set_option Elab.async false
set_option linter.all false
set_option maxRecDepth 100000
set_option maxHeartbeats 4000000
namespace K63
open PySem L2 Lay Own SrtO Tv
local macro_rules | `(tactic| walk_at "ne") => `(tactic| first | assumption | (apply Ne.symm; assumption) | exact ne_of_none (by walk_at "look") (by assumption) | exact (ne_of_none (by walk_at "look") (by assumption)).symm)
local macro_rules | `(tactic| walk_at "look") => `(tactic| first | assumption | exact upd_same | (refine Eq.trans (upd_ne ?_) ?_; walk_at "ne"; walk_at "look"))
local macro_rules | `(tactic| walk_at "rds") => `(tactic| first | rfl | assumption | walk_at "look" | exact SqL.of (by walk_at "look") | exact SqT.of (by walk_at "look") | exact Or.inl (SqL.of (by walk_at "look")) | exact Or.inl (by assumption) | decide | omega | exact Nat.le_of_ble_eq_true rfl | exact Or.inr ⟨by decide, by decide⟩ | exact Or.inl ⟨by omega, by omega⟩ | exact ⟨by decide, by decide⟩)
local macro_rules | `(tactic| walk_at "rd1") => `(tactic| first | (apply Exists.intro) | (refine And.intro ?_ ?_; walk_at "rds") | (refine Or.inl ?_; apply Exists.intro; refine And.intro ?_ ?_; rfl))
local macro_rules | `(tactic| walk_at "rd") => `(tactic| repeat walk_at "rd1")
section
variable {P : Program} {w : World} {K : PySem.W.Frag} {mg : Str → Option Value} {base : Heap}
theorem lock_same {H H' : Hp} {d : Addr} {u : HO} {od : Obj} (h : H d = some u) (s : L2.Same (upd H d (.frz od u)) H') : L2.Same H (upd H' d u) := fun b o e => by
  by_cases c : b = d
  · subst c
    rw [h] at e
    cases e
    exact upd_same
  · rw [upd_ne c]
    exact s _ _ ((upd_ne c).trans e)
theorem row_at {R : List Row} {i : Nat} {k : List Key} {v : V} (h : (R.map fun r => (tk r.1, V.ref r.2.1))[i]? = some (k, v)) : ∃ r ∈ R, k = tk r.1 ∧ v = .ref r.2.1 := by
  rw [List.getElem?_map] at h
  obtain ⟨r, hr, e⟩ := Option.map_eq_some_iff.mp h
  cases e
  exact ⟨r, List.mem_of_getElem? hr, rfl, rfl⟩
theorem trues {xs : List V} {n : Nat} (hl : xs.length = n) (h : ∀ (i : Nat) (y : V), xs[i]? = some y → y = V.bl true) : xs = (List.replicate n true).map V.bl := by
  rw [List.map_replicate]
  exact List.eq_replicate_iff.mpr ⟨hl, fun b hb => by
    obtain ⟨i, hi⟩ := List.mem_iff_getElem?.mp hb
    exact h i b hi⟩
theorem all_true (n : Nat) : (List.replicate n true).all id = true := by
  rw [List.all_eq_true]
  intro x hx
  rw [(List.mem_replicate.mp hx).2]
  rfl
def spPs : Sp := fun vs H Q _ => ∃ d m ns R, vs = [.int m, .ref d] ∧ MT H d R ∧ MOk m ns R ∧ NsOk ns ∧ 1 ≤ m ∧ R.length ≤ 200 ∧ ∀ H', L2.Same H H' → Q (.bl true) H'
theorem d_is_partners (T : Txt K mg) : Df P w K mg base 4 "is_partners" ["period", "value"] spPs := by
  have D_is_remainder := d_is_remainder (P := P) (w := w) (base := base) T
  have D_is_partner := d_is_partner (P := P) (w := w) (base := base) T
  have D_leads_back := d_leads_back (P := P) (w := w) (base := base) T
  refine T.S_is_partners.by sc_is_partners (fun vs H Q E h => ?_) (fun f cdv A outer s H vs Q E hr hgd h => ?_)
  · obtain ⟨d, m, ns, R, rfl, _⟩ := h; rfl
  · obtain ⟨d, m, ns, R, rfl, mt, ok, nok, m1, lR, k⟩ := h
    refine ⟨_, (pss_cons (ps_if (PW.pt (pw_or (pt_not (pt_val (pe_callB (Exv.call_isE T.gs) (by rfl) T.n_isinstance (by decide +kernel) (pa_cons (pv 1) (pa_cons (pe_bltn (v := .ty "dict") (u := .type "dict") (by rfl) T.n_dict (by decide +kernel) rfl) pa_nil))))) (pw_or1 (pt_not (pt_val (pe_callB (cr_all rfl) (by rfl) T.n_all (by decide +kernel) (pa_cons (pe_lock (pe_lc (own := [("at", 2)]) rfl sc_is_partners.nd (pi_keys (pv 1)) (blkOk_by (own := [("at", 2)]) (N := ["period", "value", "at", "partner"]) (sc := defScope s_is_partners) (by decide +kernel)) (fun _ _ _ _ _ => (pg_name (i := 2) sc_is_partners.nd rfl (by first | exact Or.inl rfl | exact Or.inr rfl))) (fun _ _ _ _ _ => pts_nil) (fun _ _ _ _ _ => (pe_own D_is_remainder (hr.mono (by first | decide | omega)) hgd (pa_cons (pv 2) (pa_cons (pv 0) pa_nil)))))) pa_nil))))))) (pss_one (ps_ret pe_bl)) pss_nil)
      (pss_cons (ps_if (pt_not (pt_val (pe_callB (cr_all rfl) (by rfl) T.n_all (by decide +kernel) (pa_cons (pe_lock (pe_lc (own := [("partner", 3)]) rfl sc_is_partners.nd  (pi_valuesT (pv 1)) (blkOk_by (own := [("partner", 3)]) (N := ["period", "value", "at", "partner"]) (sc := defScope s_is_partners) (by decide +kernel)) (fun _ _ _ _ _ => (pg_name (i := 3) sc_is_partners.nd rfl (by first | exact Or.inl rfl | exact Or.inr rfl))) (fun _ _ _ _ _ => pts_nil) (fun _ _ _ _ _ => (pe_own D_is_partner (hr.mono (by first | decide | omega)) hgd (pa_cons (pv 3) pa_nil))))) pa_nil)))) (pss_one (ps_ret pe_bl)) pss_nil)
      (pss_one (ps_ret (pe_callB (cr_all rfl) (by rfl) T.n_all (by decide +kernel) (pa_cons (pe_lock (pe_lc (own := [("at", 2)]) rfl sc_is_partners.nd (pi_keys (pv 1)) (blkOk_by (own := [("at", 2)]) (N := ["period", "value", "at", "partner"]) (sc := defScope s_is_partners) (by decide +kernel)) (fun _ _ _ _ _ => (pg_name (i := 2) sc_is_partners.nd rfl (by first | exact Or.inl rfl | exact Or.inr rfl))) (fun _ _ _ _ _ => pts_nil) (fun _ _ _ _ _ => (pe_own D_leads_back (hr.mono (by first | decide | omega)) hgd (pa_cons (pv 0) (pa_cons (pv 1) (pa_cons (pv 2) pa_nil))))))) pa_nil)))))), ?_⟩
    have ty : Exv.TyE K H (.ref d) (.type "dict") := .base (.base (.dT mt.1))
    refine ⟨_, rfl, _, .ty "dict", .type "dict", .type "dict", _, rfl, .ty _, ty, kit_ty (show kitB "dict" "dict" = some true from by decide +kernel), _, rfl, ?_⟩
    refine iteF ?_
    have lk : (R.map fun r => (tk r.1, V.ref r.2.1)).length < 100000 := by rw [List.length_map]; omega
    have rows : ∀ {H' : Hp} {u : HO}, L2.Same (upd H d u) H' → ∀ r ∈ R, H' r.2.1 = some (.tup [.int r.2.2.1, .str r.2.2.2]) := fun s r hr => by
      have h0 := mt.2 r hr
      exact s _ _ ((upd_ne fun z => by rw [z, mt.1] at h0; cases h0).trans h0)
    refine ⟨d, .dT _, mt.1, trivial, fun od => ?_⟩
    refine ⟨_, rfl, d, od, rfl, .inr ⟨_, upd_same, fun D nD => ?_⟩⟩
    refine lc_pure walk_keysT nD lk (fun _ sm => sm _ _ upd_same) (fun i y => y = V.bl true) (fun i x H5 H6 Kn Z hi sm y q => ?_) (fun H5 ys sm hD hl hr' => ?_)
    · obtain ⟨rfl, kk, vv, qq, hkv, rfl, hq⟩ := y
      obtain ⟨r, hr_, rfl, rfl⟩ := row_at hkv
      obtain ⟨a0, a1, an⟩ := ok.at_ r hr_
      exact ⟨rfl, _, rfl, _, rfl, qq, r.1.1, r.1.2, m, rfl, hq, a0, a1, nok.ok _ an, fun H' s => q _ _ s rfl⟩
    obtain rfl := trues hl hr'
    have fz := sm _ _ upd_same
    refine ⟨fz, ?_⟩
    have t1 := lock_same mt.1 sm
    have hD1 : (upd H5 d (.dT (R.map fun r => (tk r.1, V.ref r.2.1)))) D = some (.lst ((List.replicate (R.map fun r => (tk r.1, V.ref r.2.1)).length true).map V.bl)) := (upd_ne fun z => by rw [z, fz] at hD; cases hD).trans hD
    generalize upd H5 d (.dT (R.map fun r => (tk r.1, V.ref r.2.1))) = G1 at t1 hD1
    refine ⟨D, _, rfl, SqL.of hD1, ?_⟩
    rw [all_true]
    refine ⟨true, rfl, iteF ?_⟩
    clear sm hD hl hr' nD fz rows
    have mt1 := mt.same t1
    have rows : ∀ {H' : Hp} {u : HO}, L2.Same (upd G1 d u) H' → ∀ r ∈ R, H' r.2.1 = some (.tup [.int r.2.2.1, .str r.2.2.2]) := fun s r hr => by
      have h0 := mt1.2 r hr
      exact s _ _ ((upd_ne fun z => by rw [z, mt1.1] at h0; cases h0).trans h0)
    refine ⟨d, .dT _, mt1.1, trivial, fun od2 => ?_⟩
    refine ⟨_, rfl, d, od2, _, rfl, upd_same, fun D2 nD2 => ?_⟩
    refine lc_pure walk_valuesT nD2 lk (fun _ sm => sm _ _ upd_same) (fun i y => y = V.bl true) (fun i x H6 H7 Kn Z hi sm y q => ?_) (fun H6 ys sm hD hl hr' => ?_)
    · obtain ⟨rfl, kk, hkv⟩ := y
      obtain ⟨r, hr_, rfl, rfl⟩ := row_at hkv
      obtain ⟨a0, a1, an⟩ := ok.go r hr_
      exact ⟨rfl, _, rfl, r.2.1, r.2.2.1, r.2.2.2, rfl, rows sm r hr_, a0, a1, nok.ok _ an, fun H' s => q _ _ s rfl⟩
    obtain rfl := trues hl hr'
    have fz := sm _ _ upd_same
    refine ⟨fz, ?_⟩
    have t2 := lock_same mt1.1 sm
    have hD2 : (upd H6 d (.dT (R.map fun r => (tk r.1, V.ref r.2.1)))) D2 = some (.lst ((List.replicate (R.map fun r => (tk r.1, V.ref r.2.1)).length true).map V.bl)) := (upd_ne fun z => by rw [z, fz] at hD; cases hD).trans hD
    generalize upd H6 d (.dT (R.map fun r => (tk r.1, V.ref r.2.1))) = G2 at t2 hD2
    refine ⟨D2, _, rfl, SqL.of hD2, ?_⟩
    rw [all_true]
    refine ⟨true, rfl, iteF ?_⟩
    clear sm hD hl hr' nD2 fz rows
    have mt2 := mt1.same t2
    have rows : ∀ {H' : Hp} {u : HO}, L2.Same (upd G2 d u) H' → ∀ r ∈ R, H' r.2.1 = some (.tup [.int r.2.2.1, .str r.2.2.2]) := fun s r hr => by
      have h0 := mt2.2 r hr
      exact s _ _ ((upd_ne fun z => by rw [z, mt2.1] at h0; cases h0).trans h0)
    refine ⟨d, .dT _, mt2.1, trivial, fun od3 => ?_⟩
    refine ⟨_, rfl, d, od3, rfl, .inr ⟨_, upd_same, fun D3 nD3 => ?_⟩⟩
    refine lc_pure walk_keysT nD3 lk (fun _ sm => sm _ _ upd_same) (fun i y => y = V.bl true) (fun i x H7 H8 Kn Z hi sm y q => ?_) (fun H7 ys sm hD hl hr' => ?_)
    · obtain ⟨rfl, kk, vv, qq, hkv, rfl, hq⟩ := y
      obtain ⟨r, hr_, rfl, rfl⟩ := row_at hkv
      exact ⟨rfl, _, rfl, _, rfl, _, rfl, d, m, ns, R, r, qq, rfl, ⟨.inr ⟨od3, sm _ _ upd_same⟩, rows sm⟩, ok, nok, hr_, hq, m1, fun H' s => q _ _ s rfl⟩
    obtain rfl := trues hl hr'
    have fz := sm _ _ upd_same
    refine ⟨fz, ?_⟩
    have t3 := lock_same mt2.1 sm
    have hD3 : (upd H7 d (.dT (R.map fun r => (tk r.1, V.ref r.2.1)))) D3 = some (.lst ((List.replicate (R.map fun r => (tk r.1, V.ref r.2.1)).length true).map V.bl)) := (upd_ne fun z => by rw [z, fz] at hD; cases hD).trans hD
    refine ⟨D3, _, rfl, SqL.of hD3, ?_⟩
    rw [all_true]
    exact k _ (t1.trans (t2.trans t3))
end
end K63

set_option Elab.async false
set_option linter.all false
set_option maxRecDepth 100000
set_option maxHeartbeats 4000000
/-! ### dict comprehensions, keys of either kind -/
namespace Tv
open PySem L2 Lay Own PySem.Spec PyProof.Rows
/-- what is stored by a comprehension -/
theorem store_any {X : Cx} {pins : List (Addr × Obj)} {σ : L2.St} {H H' : Hp} {s : Shared} {E : Value → Shared → Prop} {D : Addr} {y v : V} {u r : Value} {Q : Unit → Shared → Prop} (hu : X.A.units + 1 < cLine) (I : Inv X pins σ H s) (g : DPut H D y v H') (ry : RelV y u) (rv : RelV v r)
    (h : ∀ s', Inv X pins σ H' s' → Q () s') : wpAny (model X.prog X.w) X.A (dictSet D u r) Q E s := by
  rcases g with ⟨kvs, k, e, rfl, l, rfl⟩ | ⟨kvs, k, b, e, rfl, eb, l, rfl⟩
  · exact d_dictSet I e l ry rv h
  · obtain rfl : u = Value.ref b := ry
    obtain ⟨z, hd, xs, rel, dd⟩ := dt_of I.hok e
    have lx : xs.length ≤ sizeLine := by rw [← Paired.length rel]; exact z
    refine wpAny_dictSet_heap (hsz := lx) (knd := tupleKind (mixKind X.prog X.w)) (k := k) (show X.A.units < cLine from Nat.lt_of_succ_lt hu) (key_of I.hok eb) dd fun h' dd' sb => h _ ?_
    obtain ⟨o, es, ep, g1, g2, g3, g4, _, g5⟩ := dd'
    have lp : (putK kvs k v).length ≤ sizeLine := by have := length_putK kvs k v; omega
    refine d_write I (by rw [e]; exact True.intro) sb ⟨o, g1⟩ ⟨lp, hd, _, (rel.put k eb rv).keeps fun c ys ec => ?_, o, es, ep, g1, g2, g3, g4, g5⟩
    rw [upd_ne (ne_of ec e (fun z => nomatch z))]
    exact ec
section
variable {X : Cx}
/-- one turn: the clause's target, its tests, key and value; the pair is put into D -/
def turnA (g : TG) (tt : TT) (tk tv : TE) (vs : List Nat) (σ : L2.St) (D : Addr) (x : V) (H : Hp) (R : Hp → Prop) : Prop :=
  g x (wipe σ vs) H fun σ1 H1 => wipe σ1 vs = wipe σ vs ∧ tt σ1 H1 fun b H2 => if b = true then tk σ1 H2 fun y H3 => tv σ1 H3 fun z H4 => ∃ H5, DPut H4 D y z H5 ∧ R H5 else R H2
/-- {k: v for ..}: u the new dict as it is begun -/
def tDcA (u : HO) (wi : TI) (g : TG) (tt : TT) (tk tv : TE) (vs : List Nat) : TE := fun σ H Q => wi σ H fun J H1 => ∀ D, H1 D = none → ∃ W : Nat → Nat → Hp → Prop, (∃ m, W 0 m (upd H1 D u)) ∧
  ∀ i m G, W i m G → (J.stop i G ∧ Q (.ref D) G) ∨ (J.go i G ∧ ∃ R : Hp → Prop, (∀ G', R G' → ∃ m', m' < m ∧ W (i + 1) m' G') ∧ ∀ x G', J.yld i G x G' → turnA g tt tk tv vs σ D x G' R)
theorem pe_dcA {u : HO} {kx vx tg iter : Expr} {ifs : List Expr} {scope : Scope} {own : List (Str × Nat)} {pos : Pos} {wi : TI} {g : TG} {tt : TT} {tk tv : TE} (hu : X.A.units + 1 < cLine)
    (new : ∀ (H : Hp) (h : Heap), sysModules < h.objs.size → ObjOk X.prog X.w H (h.push { cls := .type "dict", data := .dict #[] }) h.objs.size u)
    (hc : X.calm = true) (hN : X.N.Nodup) (hi : PI X tg iter wi) (ok : BlkOk X.N X.env.scope scope own)
    (hg : ∀ (s : Shared) (H : Hp) (C : Addr) (cl : List (Str × Addr)) (fp : List Addr), PG (X.blk s H scope (compEnvC scope cl C X.env) fp) tg g) (ht : ∀ (s : Shared) (H : Hp) (C : Addr) (cl : List (Str × Addr)) (fp : List Addr), PTs (X.blk s H scope (compEnvC scope cl C X.env) fp) ifs tt)
    (hk : ∀ (s : Shared) (H : Hp) (C : Addr) (cl : List (Str × Addr)) (fp : List Addr), PE (X.blk s H scope (compEnvC scope cl C X.env) fp) kx tk) (hv : ∀ (s : Shared) (H : Hp) (C : Addr) (cl : List (Str × Addr)) (fp : List Addr), PE (X.blk s H scope (compEnvC scope cl C X.env) fp) vx tv)
    (fs : ∀ x, foldedSetIterable iter X.env x = pure x := by intro _; rfl) : PE X (.DictComp kx vx [⟨tg, iter, ifs, 0⟩] scope pos) (tDcA u wi g tt tk tv (own.map (·.2))) := by
  refine ⟨fun pins s σ H Q I h => ?_⟩
  rw [arm_eval_DictComp]
  have fr : ∀ y ∈ scope.names, y.2 = .free → ∃ c, X.env.cells.lookup y.1 = some c := fun y hy e => (ok.free y hy e).elim (fun z => I.ok.has _ (.inl z)) fun z => I.ok.has _ (.inr z)
  refine wpAny_comprehension_free (use := none) rfl fs (closure_ok fr) ok.kind (fun y hy e => by rw [ok.uniq y hy, e]) (thn (hi.run pins s σ H _ I h) fun xv sa ha => thn ha fun iv sb hb => ?_)
  obtain ⟨it, fp, tn, J, Hb, rfl, Ib, T, stb, fb, q⟩ := hb
  refine wpAny_newObj_type (newEnv_comp ?_)
  obtain ⟨D, eD⟩ : ∃ D, D = sb.heap.objs.size := ⟨_, rfl⟩
  rw [← eD]
  obtain ⟨W, ⟨m0, w0⟩, turn⟩ := q D (by rw [eD]; exact Ib.hok.fresh (Nat.le_refl _))
  obtain ⟨hp, ehp⟩ : ∃ hp, hp = sb.heap.push { cls := .type "dict", data := .dict #[] } := ⟨_, rfl⟩
  rw [← ehp]
  have keep : ∀ b o, sb.heap.get? b = some o → hp.get? b = some o := fun b o e => by rw [ehp]; exact Heap.get?_push_of_some _ e
  have Ic : Inv X pins σ (upd Hb D u) { sb with heap := hp } := Ib.laid (t' := sb.toks) keep (by rw [eD]; exact Nat.le_refl _) (by rw [ehp, eD]; exact new _ _ Ib.big)
  have below : ∀ b ∈ fp, b < sb.heap.objs.size := fun b hb => by
    obtain ⟨o, e, _⟩ := T.obj _ _ stb b hb
    exact Heap.lt_size e
  have fc : ∀ b ∈ fp, FpOk X pins (upd Hb D u) b ∧ b < hp.objs.size := fun b hb => by
    have lt := below b hb
    refine ⟨⟨(upd_ne (by rw [eD]; exact Nat.ne_of_lt lt)).trans (fb b hb).1, (fb b hb).2⟩, ?_⟩
    rw [ehp, Heap.size_push]
    exact Nat.lt_succ_of_lt lt
  have stc : tn 0 hp := T.keep _ _ _ stb fun b _ o e => keep b o e
  generalize hsc : ({ sb with heap := hp } : Shared) = sc at Ic
  have ehc : sc.heap = hp := by rw [← hsc]
  rw [← ehc] at fc stc
  have Id := block_start Ic ok hN fc
  generalize hHc : upd Hb D u = Hc at Ic Id w0 fc
  have nfp : ∀ b ∈ fp, Hc b = none := fun b hb => (fc b hb).1.1
  show codeAny _ _ (.compStart (.DictComp kx vx [⟨tg, iter, ifs, 0⟩] scope pos) 0 (.ref it) (.ref D) (compEnvC scope (cellsFrom (sc.heap.objs.size + 1) scope.names (cloFrom X.env.cells scope.names [])) sc.heap.objs.size X.env)) (compPost (model X.prog X.w) X.A X.xe none (EP X pins σ Q) (.ref D) sc.heap.objs.size) { sc with heap := pushCells (sc.heap.push { cls := .type "dict", data := .dict #[] }) scope.names }
  have pg := hg sc Hc sc.heap.objs.size (cellsFrom (sc.heap.objs.size + 1) scope.names (cloFrom X.env.cells scope.names [])) fp
  have pt := ht sc Hc sc.heap.objs.size (cellsFrom (sc.heap.objs.size + 1) scope.names (cloFrom X.env.cells scope.names [])) fp
  have pk := hk sc Hc sc.heap.objs.size (cellsFrom (sc.heap.objs.size + 1) scope.names (cloFrom X.env.cells scope.names [])) fp
  have pv := hv sc Hc sc.heap.objs.size (cellsFrom (sc.heap.objs.size + 1) scope.names (cloFrom X.env.cells scope.names [])) fp
  generalize hce : compEnvC scope (cellsFrom (sc.heap.objs.size + 1) scope.names (cloFrom X.env.cells scope.names [])) sc.heap.objs.size X.env = ce at Id pg pt pk pv ⊢
  have cl : ce.locals = sc.heap.objs.size := by rw [← hce]; rfl
  have std : tn 0 (pushCells (sc.heap.push { cls := .type "dict", data := .dict #[] }) scope.names) := T.keep _ _ _ stc fun b _ o e => pushCells_keeps _ _ _ _ (Heap.get?_push_of_some _ e)
  generalize hsd : ({ sc with heap := pushCells (sc.heap.push { cls := .type "dict", data := .dict #[] }) scope.names } : Shared) = sd at Id ⊢
  have std : tn 0 sd.heap := by rw [← hsd]; exact std
  have foot : ∀ {σ' : L2.St} {G : Hp} {s' : Shared}, Inv (X.blk sc Hc scope ce fp) [] σ' G s' → (∀ b ∈ fp, G b = none) → ∀ b ∈ fp, FpOk (X.blk sc Hc scope ce fp) [] G b := fun {σ' G s'} J' hn b hb =>
    ⟨hn b hb, (J'.ok.exf b hb).1, J'.ok.exfs b hb, .inl hb, fun x c e => (J'.ok.exf b hb).2 x c e, fun p hp => absurd (show p ∈ ([] : List (Addr × Obj)) ++ [] from hp) (by simp)⟩
  have loop : codeAny (model X.prog X.w) X.A (.compLoop (.DictComp kx vx [⟨tg, iter, ifs, 0⟩] scope pos) 0 (.ref it) (.ref D) ce) (compPost (model X.prog X.w) X.A X.xe none (EP X pins σ Q) (.ref D) sc.heap.objs.size) sd := by
    refine compLoop_anyD (fun n s' => ∃ i G, Inv (X.blk sc Hc scope ce fp) [] (wipe σ (own.map (·.2))) G s' ∧ tn i s'.heap ∧ (∀ b ∈ fp, G b = none) ∧ W i n G) (fun n se => ?_) m0 ⟨0, Hc, Id, std, nfp, w0⟩
    rintro ⟨i, G, Ie, ste, ne, we⟩
    rcases turn i n G we with ⟨stop, fin⟩ | ⟨go, R, hR, step⟩
    · refine thnF (T.done (X.blk sc Hc scope ce fp) rfl rfl rfl hc i [] se _ G (fun _ _ => False) Ie (foot Ie ne) ste stop) fun r sf ⟨er, If⟩ => ?_
      subst er
      have Ig : Inv X pins σ G sf := Ic.call' (ch := fp) If.os If.base If.hok If.bare fun b hb => ⟨(fc b hb).1.2.2.2.1, (fc b hb).1.2.1, (fc b hb).1.2.2.2.2.1, (fc b hb).1.2.2.2.2.2⟩
      have nG : G sc.heap.objs.size = none := by rw [← cl]; exact If.free
      obtain ⟨m, hn, _⟩ := If.loc
      have hn' : sf.heap.Ns ce.locals m := hn
      rw [cl] at hn'
      refine ⟨m, hn', fun hh sb' => ?_⟩
      obtain ⟨f0, f1, f2, f3, f4, f5⟩ := Ic.fpOk (Nat.le_refl _) nG
      exact ⟨.ref D, G, Ig.turned (t' := sf.toks) (fun b o hb e => (sb'.2 b hb).trans e) f0 f1 f3 f4 f5, rfl, fin⟩
    · refine thnF (T.item (X.blk sc Hc scope ce fp) rfl rfl rfl hc i [] se _ G (fun _ _ => False) Ie (foot Ie ne) ste go) fun r sf ⟨v, er, hf⟩ => ?_
      subst er
      refine thnF hf fun _ sg ⟨x, Gg, Ig, rg, yg, stg, ng⟩ => ?_
      have Ip := Ig.pinned (foot Ig ng) (T.obj _ _ stg)
      refine thnF (pg.run _ sg _ Gg x v _ Ip rg (step x Gg yg)) fun _ sh ⟨σh, Gh, Ih, ew, qh⟩ => ?_
      refine thnF (pt.run _ sh σh Gh _ Ih qh) fun b si ⟨Gi, Ii, qi⟩ => ?_
      have back : ∀ {s' : Shared} {G' : Hp}, Inv (X.blk sc Hc scope ce fp) ([] ++ pinsAt fp sg.heap) σh G' s' → R G' → ∃ m, m < n ∧ ∃ i G', Inv (X.blk sc Hc scope ce fp) [] (wipe σ (own.map (·.2))) G' s' ∧ tn i s'.heap ∧ (∀ b ∈ fp, G' b = none) ∧ W i m G' := fun {s' G'} J' r => by
        obtain ⟨m', lt, w'⟩ := hR G' r
        have stays : ∀ b ∈ fp, ∀ o, sg.heap.get? b = some o → s'.heap.get? b = some o ∧ G' b = none := fun b hb o e =>
          let z := J'.pin (b, o) (List.mem_append_right _ (List.mem_append_right _ (mem_pinsAt hb e)))
          ⟨z.1, z.2.1⟩
        refine ⟨m', lt, i + 1, G', (J'.unpinned (pins := [])).weak (by rw [← ew, wipe_length]) (fun j v e => ?_), T.keep _ _ _ stg fun b hb o e => (stays b hb o e).1, fun b hb => ?_, w'⟩
        · rw [← ew] at e
          exact (wipe_some e).1
        · obtain ⟨o, e, _⟩ := T.obj _ _ stg b hb
          exact (stays b hb o e).2
      cases b with
      | false =>
        simp only [Bool.false_eq_true, if_false] at qi ⊢
        exact back Ii qi
      | true =>
        simp only [if_true] at qi ⊢
        refine thnF (pk.run _ si σh Gi _ Ii qi) fun z sj ⟨y, Gj, Ij, rj, qj⟩ => ?_
        refine thnF (pv.run _ sj σh Gj _ Ij qj) fun z2 sk ⟨y2, Gk, Ik, rk, G5, put, r5⟩ => ?_
        exact store_any (X := X.blk sc Hc scope ce fp) hu Ik put rj rk fun sl Il => back Il r5
  exact codeAny_compStart_dict loop (T.self X.A 0 _ _ _ std loop)
end
end Tv
namespace Tv
open PySem L2 Lay Own PySem.Spec PyProof.Rows
/-- a comprehension over a walk, by an invariant -/
theorem dcA_it {J : L2.It} {n : Nat} {G : Hp → Prop} {Y : Nat → Hp → V → Hp → Prop} (wk : Walk J n G Y) {u : HO} {g : TG} {tt : TT} {tk tv : TE} {vs : List Nat} {σ : L2.St} {H1 : Hp} {D : Addr} {Qd : Hp → Prop} (Pv : Nat → Hp → Prop) (h0 : Pv 0 (upd H1 D u)) (hG : ∀ i H, i ≤ n → Pv i H → G H)
    (hs : ∀ i x H H', i < n → Pv i H → Y i H x H' → turnA g tt tk tv vs σ D x H' (Pv (i + 1))) (hd : ∀ H, Pv n H → Qd H) :
    ∃ W : Nat → Nat → Hp → Prop, (∃ m, W 0 m (upd H1 D u)) ∧ ∀ i m H, W i m H → (J.stop i H ∧ Qd H) ∨ (J.go i H ∧ ∃ R : Hp → Prop, (∀ G', R G' → ∃ m', m' < m ∧ W (i + 1) m' G') ∧ ∀ x G', J.yld i H x G' → turnA g tt tk tv vs σ D x G' R) := by
  refine ⟨fun i m H => m + i = n ∧ Pv i H, ⟨n, rfl, h0⟩, fun i m H => ?_⟩
  rintro ⟨e, p⟩
  have q := hG i H (by omega) p
  cases m with
  | zero =>
    obtain rfl : i = n := by omega
    exact .inl ⟨wk.stops H q, hd H p⟩
  | succ m =>
    refine .inr ⟨wk.goes i H (by omega) q, Pv (i + 1), fun G' p' => ⟨m, Nat.lt_succ_self m, by omega, p'⟩, fun x G' y => hs i x H G' (by omega) p (wk.yields i H x G' (by omega) q y)⟩
end Tv
/-! ### == and != of dicts whose keys are tuples -/
namespace Tv
open PySem L2 Lay Own PySem.Spec PyProof.Rows
section
variable {prog : Program} {w : World} {A : Around} {E : Value → Shared → Prop} {s : Shared}
/-- the pairs are gone through: all are met by equal ones -/
theorem same_pairsT {K : Type} [DecidableEq K] {knd : HeapKind prog w K} {nm : String} {a b : Addr} {xa xb : List (K × Addr × Value)} {Q : Bool → Shared → Prop} (hr : knd.room A) (ha : (a == sysModules) = false) (hb : (b == sysModules) = false)
    (da : s.heap.DictOfH knd a xa) (db : s.heap.DictOfH knd b xb)
    (h : (xa.length ≠ xb.length ∧ Q false s) ∨ (xa.length = xb.length ∧ (∀ x ∈ xa, ∃ p, atKey xb x.1 = some p ∧ SeqAt.EqAt A s x.2.2 p.2 true) ∧ Q true s)) :
    wpAny (model prog w) A (Builtin.Dict.samePairs nm a b) Q E s := by
  obtain ⟨oa, es, ep, ga, ca, ta, ea, ia, na⟩ := da
  obtain ⟨ob, fs, fp, gb, cb, tb, eb, ib, nb⟩ := db
  have la := size_of_entries ea
  have lb := size_of_entries eb
  unfold Builtin.Dict.samePairs Builtin.Dict.showsAll
  rw [if_neg (by rw [ha]; exact Bool.false_ne_true), if_neg (by rw [hb]; exact Bool.false_ne_true)]
  refine wpAny_bind (wpAny_pure (wpAny_bind (wpAny_pure (wpAny_bind (wpAny_dictEntries ga ta ?_)))))
  dsimp only
  refine wpAny_bind (wpAny_dictEntries gb tb ?_)
  rcases h with ⟨ne, q⟩ | ⟨le, all, q⟩
  · rw [if_pos (by simp; omega)]
    exact wpAny_bind (wpAny_rule (wpAny_pure q))
  · rw [if_neg (by simp; omega)]
    refine wpAny_bind (wpAny_dictEpoch ga ta (wpAny_bind ?_))
    rw [Std.Legacy.Range.forIn_eq_forIn_range']
    simp only [Std.Legacy.Range.size, Nat.sub_zero, Nat.add_sub_cancel, Nat.div_one]
    refine wpAny_forIn_list _ (fun rest c s' => s' = s ∧ c = (none, ()) ∧ ∀ i ∈ rest, i < es.size) _ ?_ ?_ _ _ ⟨rfl, rfl, fun i hi => by simp [List.mem_range'] at hi; omega⟩
    · rintro i rest c s' ⟨rfl, rfl, lt⟩
      have hi : i < es.size := lt i (List.mem_cons_self ..)
      have hx : i < xa.length := by omega
      refine wpAny_bind (wpAny_dictEntries ga ta ?_)
      rw [entry_at ea i, List.getElem?_eq_getElem hx]
      obtain ⟨p, hp, eq⟩ := all _ (List.getElem_mem hx)
      have ix := ia _ (List.getElem_mem hx)
      generalize xa[i] = x at hp eq ix
      show wpAny _ _ (holding [Value.ref x.2.1, x.2.2] _ >>= _) _ _ _
      refine wpAny_bind (wpAny_holding (wpAny_bind ?_))
      refine wpAny_dictFind_heap (k := x.1) hr ix gb tb eb ib nb (fun no => ?_) (fun j r hj => ?_)
      · rw [atKey_none_of_get no] at hp
        cases hp
      · have hp' := atKey_of_get nb hj
        rw [hp] at hp'
        cases hp'
        refine wpAny_bind (wpAny_dictEntries gb tb ?_)
        rw [entry_at eb j, hj]
        refine wpAny_holding (eq prog w _ _ ?_)
        show wpAny _ _ (if (!true) = true then _ else _) _ _ _
        rw [if_neg (by decide)]
        refine wpAny_bind (wpAny_dictEpoch ga ta ?_)
        rw [if_neg (by simp)]
        exact wpAny_pure ⟨rfl, rfl, fun i hi => lt i (List.mem_cons_of_mem _ hi)⟩
    · rintro c s' ⟨rfl, rfl, _⟩
      exact wpAny_pure q
end
end Tv
namespace Tv
open PySem L2 Lay Own PySem.Spec PyProof.Rows
section
variable {X : Cx}
/-- two dicts whose keys are tuples: not as many, or all the same -/
def rDT (K : PySem.W.Frag) (neg : Bool) : R2 := fun x y H Q => ∃ a b ks ls, x = .ref a ∧ y = .ref b ∧ Rd H a (.dT ks) ∧ Rd H b (.dT ls) ∧
  ((ks.length ≠ ls.length ∧ Q (.bl neg) H) ∨ (ks.length = ls.length ∧ (∀ p ∈ ks, ∃ z d e, valV ls p.1 = some z ∧ Dp K H p.2 d ∧ Dp K H z e ∧ SeqAt.shaped d = true ∧ SeqAt.shaped e = true ∧ PyData.eqv d e = true) ∧ Q (.bl !neg) H))
theorem hit_at {pins : List (Addr × Obj)} {s : Shared} {σ : L2.St} {H : Hp} {A : Around} {v z : V} {d e : PyData} {u t : Value} (I : Inv X pins σ H s) (hu : A.units + 64 < cLine) (h1 : Dp X.K H v d) (h2 : Dp X.K H z e) (s1 : SeqAt.shaped d = true) (s2 : SeqAt.shaped e = true) (q : PyData.eqv d e = true) (r1 : RelV v u) (r2 : RelV z t) :
    SeqAt.EqAt A s u t true := by
  obtain ⟨as, ra⟩ := Dp.reads I d v u h1 r1
  obtain ⟨bs, rb⟩ := Dp.reads I e z t h2 r2
  have q' := SeqAt.eqAt_reads d e A s u t as bs ra rb (SeqAt.canLay_of_shaped s1) (SeqAt.canLay_of_shaped s2) (SeqAt.room_of_shaped s1 hu)
  rw [q] at q'
  exact q'
theorem hits_dT {pins : List (Addr × Obj)} {s : Shared} {σ : L2.St} {H : Hp} {A : Around} {ks ls : List (List Key × V)} {xa xb : List (List Key × Addr × Value)} (I : Inv X pins σ H s) (hu : A.units + 64 < cLine) (ra : KT H ks xa) (rb : KT H ls xb)
    (all : ∀ p ∈ ks, ∃ z d e, valV ls p.1 = some z ∧ Dp X.K H p.2 d ∧ Dp X.K H z e ∧ SeqAt.shaped d = true ∧ SeqAt.shaped e = true ∧ PyData.eqv d e = true) : ∀ x ∈ xa, ∃ p, atKey xb x.1 = some p ∧ SeqAt.EqAt A s x.2.2 p.2 true := by
  intro x hx
  obtain ⟨j, hj⟩ := List.mem_iff_getElem?.mp hx
  obtain ⟨p, hp, e1, _, e3⟩ := L2.DX.pget ra hj
  obtain ⟨z, d, e, hz, h1, h2, s1, s2, q⟩ := all p (List.mem_of_getElem? hp)
  have rz := rb.val p.1
  rw [hz] at rz
  obtain ⟨w', hw, rw'⟩ := RelO.some_of (v := z) (o := (atKey xb p.1).map (·.2)) rz
  obtain ⟨y, hy, ey⟩ := Option.map_eq_some_iff.mp hw
  rw [← e1]
  refine ⟨y, hy, ?_⟩
  rw [ey]
  exact hit_at I hu h1 h2 s1 s2 q e3 rw'
theorem op_eqT (hu : X.A.units + 70 < cLine) : OpR X (compareOp .Eq) (rDT X.K false) := by
  intro pins s σ H x y v u Q I rx ry h
  obtain ⟨a, b, ks, ls, rfl, rfl, ea, eb, h⟩ := h
  obtain rfl : v = Value.ref a := rx
  obtain rfl : u = Value.ref b := ry
  obtain ⟨_, ya, xa, ra, da⟩ := dt_rd I.hok ea
  obtain ⟨_, yb, xb, rb, db⟩ := dt_rd I.hok eb
  refine wpAny_richCompare_same_room (op := .Eq) da.typeIs db.typeIs PySem.F.slot_dict_eq (wpAny_call_entry PySem.F.slot_dict_eq da.typeIs PySem.F.entry_dict_eq ?_ (PySem.F.args_dict_eq_2 _ _)) (by omega)
  show wpAny _ _ (Builtin.Dict.dictSlotArgs "__eq__" ⟨[.ref a, .ref b], []⟩ >>= _) _ _ s
  refine wpAny_bind ?_
  unfold Builtin.Dict.dictSlotArgs
  refine wpAny_bind (wpAny_notOrdered_dict da.typeIs ?_)
  show wpAny _ _ (pure (Value.ref a, Value.ref b)) _ _ s
  refine wpAny_pure (wpAny_bind (wpAny_isInstance (T := "dict") db.typeIs PySem.F.sub_dict_dict ?_))
  simp only [Bool.not_true, Bool.false_eq_true, if_false]
  refine wpAny_bind (wpAny_pure (wpAny_bind (wpAny_pure (wpAny_bind ?_))))
  have rm : (tupleKind (mixKind X.prog X.w)).room X.A.in1 := by show X.A.units + 1 < cLine; omega
  have l1 := Paired.length ra
  have l2 := Paired.length rb
  refine same_pairsT rm ya yb da db ?_
  rcases h with ⟨ne, q⟩ | ⟨le, all, q⟩
  · exact .inl ⟨by omega, wpAny_pure ⟨_, rfl, fun z => (nomatch z), .bl false, H, I, rfl, q⟩⟩
  · exact .inr ⟨by omega, hits_dT I (by show X.A.units + 1 + 64 < cLine; omega) ra rb all, wpAny_pure ⟨_, rfl, fun z => (nomatch z), .bl true, H, I, rfl, q⟩⟩
theorem op_neT (hu : X.A.units + 70 < cLine) : OpR X (compareOp .NotEq) (rDT X.K true) := by
  intro pins s σ H x y v u Q I rx ry h
  obtain ⟨a, b, ks, ls, rfl, rfl, ea, eb, h⟩ := h
  obtain rfl : v = Value.ref a := rx
  obtain rfl : u = Value.ref b := ry
  obtain ⟨_, ya, xa, ra, da⟩ := dt_rd I.hok ea
  obtain ⟨_, yb, xb, rb, db⟩ := dt_rd I.hok eb
  refine wpAny_richCompare_same_room (op := .NotEq) da.typeIs db.typeIs PySem.F.slot_dict_ne (wpAny_call_entry PySem.F.slot_dict_ne da.typeIs PySem.F.entry_dict_ne ?_ (PySem.F.args_dict_ne_2 _ _)) (by omega)
  show wpAny _ _ (Builtin.Dict.dictSlotArgs "__ne__" ⟨[.ref a, .ref b], []⟩ >>= _) _ _ s
  refine wpAny_bind ?_
  unfold Builtin.Dict.dictSlotArgs
  refine wpAny_bind (wpAny_notOrdered_dict da.typeIs ?_)
  show wpAny _ _ (pure (Value.ref a, Value.ref b)) _ _ s
  refine wpAny_pure (wpAny_bind (wpAny_isInstance (T := "dict") db.typeIs PySem.F.sub_dict_dict ?_))
  simp only [Bool.not_true, Bool.false_eq_true, if_false]
  refine wpAny_bind (wpAny_pure (wpAny_bind (wpAny_pure (wpAny_bind ?_))))
  have rm : (tupleKind (mixKind X.prog X.w)).room X.A.in1 := by show X.A.units + 1 < cLine; omega
  have l1 := Paired.length ra
  have l2 := Paired.length rb
  refine same_pairsT rm ya yb da db ?_
  rcases h with ⟨ne, q⟩ | ⟨le, all, q⟩
  · exact .inl ⟨by omega, wpAny_pure ⟨_, rfl, fun z => (nomatch z), .bl true, H, I, rfl, q⟩⟩
  · exact .inr ⟨by omega, hits_dT I (by show X.A.units + 1 + 64 < cLine; omega) ra rb all, wpAny_pure ⟨_, rfl, fun z => (nomatch z), .bl false, H, I, rfl, q⟩⟩
end
end Tv

set_option Elab.async false
set_option linter.all false
set_option maxRecDepth 100000
set_option maxHeartbeats 4000000
/-! ### the text of a dict whose keys are tuples -/
namespace Tv
open PySem L2 Lay Own PySem.Spec PyProof.Rows Rp
/-- the text of an entry -/
def EnT (K : PySem.W.Frag) (H : Hp) (d : Addr) (p : List Key × V) (t : Str) : Prop := ∃ ts as vt, SwL K H [] (p.1.map kV) ts ∧ Sw K H as p.2 vt ∧ as.length ≤ 10 ∧ d ∉ as ∧ t = tupleText ts ++ ": " ++ vt
section
variable {P : Program} {w : World} {K : PySem.W.Frag} {H : Hp} {h : Heap} {d : Addr}
theorem ents_more {as as' : List Addr} {n : Nat} (hs : ∀ b ∈ as, b ∈ as') : ∀ {es : List DictEntry} {ps : List Str}, ReprEntriesK P w as h n es ps → ReprEntriesK P w as' h n es ps
  | _, _, .nil => .nil
  | _, _, .cons k v r => .cons (k.more hs) (v.more hs) (ents_more hs r)
theorem ents_dT {kvs0 : List (List Key × V)} (ok : HOk P w H h) (X : K.In h) (hd : ∀ xs, H d ≠ some (.tup xs)) : ∀ {kvs : List (List Key × V)} {xs : List (List Key × Addr × Value)} {ps : List Str}, KT H kvs xs → Paired (EnT K H d) kvs ps → (∀ t ∈ ps, t.length ≤ sizeLine) →
    ∃ as, d ∉ as ∧ ReprEntriesK P w as h 24 (xs.map (entryOfKey (tupleKind (mixKind P w)))) ps := by
  intro kvs xs ps r
  induction r generalizing ps with
  | nil => intro p _; cases p; exact ⟨[], by simp, .nil⟩
  | @cons p q kvs xs e _ ih =>
    intro pr hz
    cases pr with
    | @cons _ t _ ts en rest =>
      obtain ⟨as, na, ents⟩ := ih rest fun t ht => hz t (List.mem_cons_of_mem _ ht)
      obtain ⟨e1, e2, e3⟩ := e
      obtain ⟨kt, bs, vt, l1, l2, b10, nb, rfl⟩ := en
      have ht := hz _ (List.mem_cons_self ..)
      rw [strLen_append, strLen_append] at ht
      obtain ⟨_, its, rv, o, g1, g2, m, g3⟩ := (show ObjOk P w H h q.2.1 (.tup (p.1.map kV)) from ok _ _ e2)
      have al := swl_repr ok X l1 rv (fun t ht' => Nat.le_trans (tupleText_mem_le ht') (by omega))
      have rk := ReprK.tuple (n := m) g1 g2 g3 (List.not_mem_nil) (by simpa using al)
      have rv2 := sw_repr ok X l2 e3 (by omega)
      have nq : d ≠ q.2.1 := fun z => hd _ (z ▸ e2)
      refine ⟨q.2.1 :: (bs ++ as), ?_, .cons ((rk.more fun b hb => ?_).level_le (by simp)) ((rv2.more fun b hb => ?_).level_le (by omega)) (ents_more (fun b hb => ?_) ents)⟩
      · simp only [List.mem_cons, List.mem_append, not_or]
        exact ⟨nq, nb, na⟩
      · simp only [List.mem_cons, List.not_mem_nil, or_false] at hb
        rw [hb]
        exact List.mem_cons_self ..
      · exact List.mem_cons_of_mem _ (List.mem_append_left _ hb)
      · exact List.mem_cons_of_mem _ (List.mem_append_right _ hb)
end
section
variable {X : Cx}
def RdText (K : PySem.W.Frag) (H : Hp) (x : V) (t : Str) : Prop := ∃ p kvs ps, x = .ref p ∧ H p = some (.dT kvs) ∧ Paired (EnT K H p) kvs ps ∧ t = dictText ps ∧ t.length ≤ sizeLine
theorem text_at {pins : List (Addr × Obj)} {s : Shared} {σ : L2.St} {H : Hp} {x : V} {t : Str} (I : Inv X pins σ H s) (h : RdText X.K H x t) : ∃ p as es ep ps o, x = .ref p ∧ t = dictText ps ∧ t.length ≤ sizeLine ∧ s.heap.get? p = some o ∧ o.ExactDict ∧ o.data = .dict es ep ∧ (p == sysModules) = false ∧ p ∉ as ∧
    ReprEntriesK X.prog X.w as s.heap 24 es.toList ps := by
  obtain ⟨p, kvs, ps, rfl, hp, pr, rfl, hz⟩ := h
  obtain ⟨_, y, xs, r, o, es, ep, g1, g2, g3, g4, _⟩ := (show ObjOk X.prog X.w H s.heap p (.dT kvs) from I.hok p _ hp)
  obtain ⟨as, na, ents⟩ := ents_dT (d := p) (kvs0 := kvs) I.hok I.kIn (fun xs z => by rw [hp] at z; cases z) r pr fun t ht => Nat.le_trans (dictText_mem_le ht) hz
  exact ⟨p, as, es, ep, ps, o, rfl, rfl, hz, g1, g2, g3, y, na, by rw [g4]; exact ents⟩
/-- repr(d) -/
theorem call_reprDT (hg : X.A.guards = some []) (hu : X.A.units + 200 < cLine) : CallR X (.builtin "repr") (fun xs H Q => ∃ x t, xs = [x] ∧ RdText X.K H x t ∧ Q (.str t) H) := by
  intro pins s σ H xs us Q I r h
  obtain ⟨x, t, rfl, tx, q⟩ := h
  obtain ⟨u, rfl, e⟩ := vals1 r
  obtain ⟨p, as, es, ep, ps, o, rfl, rfl, hz, g1, g2, g3, y, na, ents⟩ := text_at I tx
  cases (show u = Value.ref p from e)
  refine call_repr_slot (by omega) ⟨_, g1, g2.1⟩ F.slot_dict_repr ?_
  exact call_dict_reprK (A := X.A.in1) g1 g2.1 g3 y na ents (g := []) (by simpa using hg) (fun b _ => Clear.nil b) (by show X.A.units + 1 + (24 + 1) < cLine; omega)
    (fun _ _ e => e) (fun h' u tk kp => ⟨_, _, rfl, ⟨.str (dictText ps), H, I.kept (t' := tk) kp, ⟨_, rfl⟩, q⟩⟩) hz
/-- {d!r} -/
def tFmtDT (K : PySem.W.Frag) (te : TE) : TE := fun σ H Q => te σ H fun x H1 => ∃ t, RdText K H1 x t ∧ Q (.str t) H1
theorem pe_fmtDT {e : Expr} {te : TE} {pos : Pos} (hg : X.A.guards = some []) (hu : X.A.units + 200 < cLine) (he : PE X e te) : PE X (.FormattedValue e 114 none pos) (tFmtDT X.K te) := by
  refine ⟨fun pins s σ H Q I h => ?_⟩
  refine wpAny_FormattedValue_repr (thn (he.run pins s σ H _ I h) fun v s1 hv => ?_)
  obtain ⟨x, H1, I1, r1, t, tx, q⟩ := hv
  obtain ⟨p, as, es, ep, ps, o, rfl, rfl, hz, g1, g2, g3, y, na, ents⟩ := text_at I1 tx
  cases (show v = Value.ref p from r1)
  refine wpAny_pyReprObj_dictK (A := X.A) g1 g2.1 g3 y na ents (g := []) hg (fun b _ => Clear.nil b) (by omega) (fun _ _ e => e) (fun h' u tk kp => ?_) hz
  exact wpAny_formatField_str ⟨.str (dictText ps), H1, I1.kept (t' := tk) kp, ⟨_, rfl⟩, q⟩ ⟨.str (dictText ps), H1, I1.kept (t' := tk + 1) kp, ⟨_, rfl⟩, q⟩ hz
end
end Tv

set_option Elab.async false
set_option linter.all false
set_option maxRecDepth 100000
set_option maxHeartbeats 4000000
/-! ### list(d.items()), dict(pairs), clear, update: keys that are tuples -/
namespace Tv
open PySem L2 Lay Own PySem.Spec PyProof.Rows L2.DX
/-- a pair that tells an entry -/
def PrT (H : Hp) (t : Addr) (q : List Key × V) : Prop := ∃ k, H t = some (.tup [.ref k, q.2]) ∧ H k = some (.tup (q.1.map kV))
theorem pget2 {α β : Type} {F : α → β → Prop} {as : List α} {bs : List β} (l : as.length = bs.length) (h : ∀ (i : Nat) (a : α) (b : β), as[i]? = some a → bs[i]? = some b → F a b) : Paired F as bs := by
  induction as generalizing bs with
  | nil =>
    cases bs with
    | nil => exact .nil
    | cons b bs => simp at l
  | cons a as ih =>
    cases bs with
    | nil => simp at l
    | cons b bs => exact .cons (h 0 a b rfl rfl) (ih (by simpa using l) fun i x y e1 e2 => h (i + 1) x y (by simpa using e1) (by simpa using e2))
section
variable {X : Cx}
theorem call_listIT (hc : X.calm = true) : CallR X (.type "list") (fun xs H Q => ∃ p d kvs, xs = [.ref p] ∧ H p = some (itemsO p d) ∧ Rd H d (.dT kvs) ∧
    ∀ l as H', L2.Same H H' → H l = none → H' l = some (.lst (as.map V.ref)) → Paired (PrT H') as kvs → Q (.ref l) H') := by
  intro pins s σ H xs us Q I r h
  obtain ⟨p, d, kvs, rfl, hp, hd, q⟩ := h
  obtain ⟨u, rfl, rx⟩ := vals1 r
  obtain rfl : u = Value.ref p := rx
  obtain ⟨z, hs, ks, pr, o, es, ep, ho, hx, hdt, he, hn⟩ := (show ObjOk X.prog X.w H s.heap d (.dT kvs) from hd.ok I.hok)
  have l1 : es.size = ks.length := size_of_entries he
  have l2 : kvs.length = ks.length := Paired.length pr
  have view : s.heap.IsItemsView p d := (show ObjOk X.prog X.w H s.heap p (itemsO p d) from I.hok p _ hp).1
  refine PySem.W.dil_call (es := es) (ep := ep) (I.ok.hd hc) view ⟨o, ho, hx, hdt⟩ (by omega) fun h' tk acc c as kp hS hl hG hacc => ?_
  have nS : H s.heap.objs.size = none := I.hok.fresh (Nat.le_refl _)
  have nSa : s.heap.objs.size ∉ as := fun z => Nat.lt_irrefl _ (hG.above _ z)
  have nd : as.Nodup := List.Pairwise.imp (fun h => Nat.ne_of_lt h) hG.rise
  have I1 : Inv X pins σ H { s with heap := h', toks := tk } := I.kept (t' := tk) kp
  have I2 : Inv X pins σ (upd H s.heap.objs.size (.lst (as.map V.ref))) { s with heap := h', toks := tk } :=
    I1.take (h' := h') (t' := tk) (fun b ob _ e => e) (I.fpOk (Nat.le_refl _) nS) ⟨by rw [List.length_map]; omega, acc.toList, c, by rw [hacc]; exact vals_refs as, by rw [Array.toArray_toList]; exact hS⟩
  have what : ∀ (j : Nat) (b : Addr), as[j]? = some b → ∃ x y, ks[j]? = some x ∧ kvs[j]? = some y ∧ y.1 = x.1 ∧ H x.2.1 = some (.tup (y.1.map kV)) ∧ RelV y.2 x.2.2 ∧ h'.get? b = some { cls := .type "tuple", data := .seq #[.ref x.2.1, x.2.2] } := by
    intro j b hj
    obtain ⟨lt, g⟩ := hG.pairs j b hj
    have ltk : j < ks.length := by omega
    obtain ⟨y, hy, e1, e2, e3⟩ := L2.DX.pget pr (List.getElem?_eq_getElem ltk)
    have en := entry_at he j
    rw [List.getElem?_eq_getElem ltk, Array.getElem?_eq_getElem lt] at en
    have en' : es[j] = entryOfKey (tupleKind (mixKind X.prog X.w)) ks[j] := Option.some.inj en
    rw [en'] at g
    exact ⟨ks[j], y, List.getElem?_eq_getElem ltk, hy, e1, e2, e3, g⟩
  obtain ⟨H2, I3, g, qt⟩ := takeT (P := fun b vs => ∃ (j : Nat) (x : List Key × Addr × Value) (y : List Key × V), as[j]? = some b ∧ kvs[j]? = some y ∧ vs = [.ref x.2.1, y.2] ∧ H x.2.1 = some (.tup (y.1.map kV))) I as _ I2 nd fun b hb => by
    obtain ⟨j, hj⟩ := List.mem_iff_getElem?.mp hb
    obtain ⟨x, y, _, hy, e1, e2, e3, gg⟩ := what j b hj
    have above := hG.above b hb
    refine ⟨Nat.le_of_lt above, (upd_ne (Nat.ne_of_gt above)).trans (I.hok.fresh (Nat.le_of_lt above)), _, ⟨j, x, y, hj, hy, rfl, e2⟩, fun H3 => ⟨by show 2 ≤ sizeLine; decide +kernel, _, .cons rfl (.cons e3 .nil), ⟨_, gg, rfl, 0, rfl⟩⟩⟩
  have sm : L2.Same H H2 := fun b o e => g b o ((upd_ne (ne_of_none e nS)).trans e)
  refine ⟨.ref s.heap.objs.size, H2, I3, rfl, q _ as H2 sm nS (g _ _ upd_same) (pget2 (by omega) fun i b y hb hy => ?_)⟩
  obtain ⟨vs, ⟨j, x, y', j1, j2, ev, hk⟩, hH⟩ := qt b (List.mem_of_getElem? hb)
  have eij : i = j := (List.getElem?_inj (List.getElem?_eq_some_iff.mp hb).1 nd).mp (hb.trans j1.symm)
  subst eij
  cases hy.symm.trans j2
  rw [ev] at hH
  exact ⟨_, hH, sm _ _ hk⟩
/-- dict(pairs) -/
theorem call_dictPT (hc : X.calm = true) (hu : X.A.units + 8 < cLine) : CallR X (.type "dict") (fun xs H Q => ∃ l as kvs, xs = [.ref l] ∧ SqL X.K H l (as.map V.ref) ∧ Paired (PrT H) as kvs ∧ (kvs.map (·.1)).Nodup ∧ ∀ d, H d = none → Q (.ref d) (upd H d (.dT kvs))) := by
  intro pins s σ H xs us Q I r h
  obtain ⟨l, as, kvs, rfl, hl, hp, nd, q⟩ := h
  obtain ⟨u, rfl, rx⟩ := vals1 r
  obtain rfl : u = Value.ref l := rx
  obtain ⟨its, rv, pl, hz⟩ := I.list hl
  have ei := refs_at rv
  subst ei
  have la := Paired.length hp
  rw [List.length_map] at hz
  have ch : ∀ {as : List Addr} {kvs : List (List Key × V)}, Paired (PrT H) as kvs → ∃ ps : List (List Key × Addr × Value), KT H kvs ps ∧ ps.length = as.length ∧ ∀ (j : Nat) (x : List Key × Addr × Value), ps[j]? = some x → ∃ b, as[j]? = some b ∧ IsTup s.heap b #[.ref x.2.1, x.2.2] := by
    intro as kvs hp
    induction hp with
    | nil => exact ⟨[], .nil, rfl, fun j x e => by simp at e⟩
    | @cons a q as kvs e _ ih =>
      obtain ⟨ps, k1, k2, k3⟩ := ih
      obtain ⟨k, e1, e2⟩ := e
      obtain ⟨_, its, rv, it⟩ := (show ObjOk X.prog X.w H s.heap a (.tup [.ref k, q.2]) from I.hok a _ e1)
      obtain ⟨u1, u2, rfl, r1, r2⟩ := vals2 rv
      cases (show u1 = Value.ref k from r1)
      refine ⟨(q.1, k, u2) :: ps, .cons ⟨rfl, e2, r2⟩ k1, by rw [List.length_cons, List.length_cons, k2], fun j x e => ?_⟩
      cases j with
      | zero =>
        cases (show some (q.1, k, u2) = some x from e)
        exact ⟨a, rfl, it⟩
      | succ j =>
        obtain ⟨b, f1, f2⟩ := k3 j x (by simpa using e)
        exact ⟨b, by simpa using f1, f2⟩
  obtain ⟨ps, kt, lp, at_⟩ := ch hp
  have keys : ps.map (·.1) = kvs.map (·.1) := by
    clear at_ lp ch hp la nd q
    induction kt with
    | nil => rfl
    | cons e _ ih => rw [List.map_cons, List.map_cons, ih, e.1]
  have lq : (ps.map fun x => (Value.ref x.2.1, x.2.2)).length = as.length := by rw [List.length_map, lp]
  have items : PairItems s.heap (as.map Value.ref).toArray (fun j => as.getD j 0) (ps.map fun x => (Value.ref x.2.1, x.2.2)) := by
    refine ⟨by simp [lp], fun j k v e => ?_⟩
    rw [List.getElem?_map] at e
    obtain ⟨x, hx, ex⟩ := Option.map_eq_some_iff.mp e
    cases ex
    obtain ⟨b, hb, it⟩ := at_ j x hx
    have gd : as.getD j 0 = b := by
      rw [List.getD_eq_getElem?_getD, hb]
      rfl
    refine ⟨?_, ?_⟩
    · rw [List.getElem?_toArray, List.getElem?_map, hb]
      show some (Value.ref b) = some (Value.ref (as.getD j 0))
      rw [gd]
    · show PairAt s.heap (as.getD j 0) _ _
      rw [gd]
      exact .inl it
  have isk : ∀ x ∈ ps, (tupleKind (mixKind X.prog X.w)).is s.heap x.1 x.2.1 := fun x hx => by
    obtain ⟨j, hj⟩ := List.mem_iff_getElem?.mp hx
    obtain ⟨y, _, e1, e2, _⟩ := L2.DX.pget kt hj
    rw [← e1]
    exact key_of I.hok e2
  refine call_dict_pairsH (knd := tupleKind (mixKind X.prog X.w)) (ps := ps) (PairArg.list l _ (fun j => as.getD j 0) (ps.map fun x => (Value.ref x.2.1, x.2.2))) (I.ok.hd hc) (by show X.A.units + 1 + 1 < cLine; omega) ⟨(let ⟨o, n, h1, h2, h3, h4⟩ := pl; ⟨o, n, h1, h2, h3, h4⟩), items⟩ ⟨by rw [List.length_map], fun i key v e => ?_⟩ (fun h' hk x hx => ?_) (by rw [lq]; exact hz) fun h' tk dd kp => ?_
  · rw [PairRel, List.getElem?_map] at e
    obtain ⟨x, hx, ex⟩ := Option.map_eq_some_iff.mp e
    cases ex
    exact ⟨x.1, x.2.1, hx, rfl⟩
  · exact tupleKind_stays.stays (fun b o vs n e _ => hk b o (Nat.ne_of_lt (Heap.lt_size e)) (List.not_mem_nil) e) (isk x hx)
  · rw [storedAllH_nil_of_nodup ps (by rw [keys]; exact nd)] at dd
    obtain ⟨o, es, ep, g1, g2, g3, g4, _, g5⟩ := dd
    have hm : (s.heap.objs.size == sysModules) = false := beq_eq_false_iff_ne.mpr (Nat.ne_of_gt I.big)
    have nS : H s.heap.objs.size = none := I.hok.fresh (Nat.le_refl _)
    refine ⟨.ref s.heap.objs.size, upd H s.heap.objs.size (.dT kvs), I.laid (t' := tk) (fun b o e => kp b o (List.not_mem_nil) e) (Nat.le_refl _) ⟨by omega, hm, ps, kt.keeps (fun b ys e => (upd_ne (ne_of_none e nS)).trans e), o, es, ep, g1, g2, g3, g4, g5⟩, rfl, q _ nS⟩
/-- d.clear() -/
def rClearT : V → List V → Hp → VK → Prop := fun x xs H Q => ∃ d kvs, x = .ref d ∧ xs = [] ∧ H d = some (.dT kvs) ∧ Q .non (upd H d (.dT []))
theorem mt_clearT : MtR X "dict.clear" rClearT := by
  intro pins s σ H x xs v us Q I rx rxs h
  obtain ⟨d, kvs, rfl, rfl, hd, q⟩ := h
  cases rx
  cases rxs
  obtain ⟨z, sy, ys, rel, dd⟩ := dt_of I.hok hd
  have dk : s.heap.DictKeyed (tupleKind (mixKind X.prog X.w)) d (pairsH ys) := ⟨ys, dd, rfl⟩
  refine clear_keyed (hsz := by rw [pairsH_length, ← Paired.length rel]; exact z) dk fun h' dk' sb => ?_
  obtain ⟨zs, ⟨o, es, ep, g1, g2, g3, g4, _, g5⟩, e⟩ := dk'
  obtain rfl : zs = [] := by simpa [pairsH] using e
  exact ⟨.non, upd H d (.dT []), d_write (t' := s.toks) I (by rw [hd]; exact True.intro) sb ⟨o, g1⟩ ⟨Nat.zero_le _, sy, [], .nil, o, es, ep, g1, g2, g3, g4, g5⟩, rfl, q⟩
/-- d.update(e), e of one entry -/
theorem kt_all {H : Hp} {ls : List (List Key × V)} {zs : List (List Key × Addr × Value)} (r : KT H ls zs) : ∀ {ks : List (List Key × V)} {ys : List (List Key × Addr × Value)}, KT H ks ys → ∃ ks', KT H ks' (storedAllH ys zs) := by
  induction r with
  | nil => exact fun h => ⟨_, h⟩
  | @cons p q ls zs e _ ih =>
    intro ks ys h
    obtain ⟨e1, e2, e3⟩ := e
    have z := h.put p.1 e2 e3
    rw [e1] at z
    exact ih z
def rUpdT : V → List V → Hp → VK → Prop := fun x xs H Q => ∃ d e ks ls, x = .ref d ∧ xs = [.ref e] ∧ d ≠ e ∧ H d = some (.dT ks) ∧ H e = some (.dT ls) ∧ ls.length ≤ 1 ∧ ks.length ≤ 100000 ∧ ∀ ks', Q .non (upd H d (.dT ks'))
theorem mt_updT (hu : X.A.units + 8 < cLine) : MtR X "dict.update" rUpdT := by
  intro pins s σ H x xs v us Q I rx rxs h
  obtain ⟨d, e, ks, ls, rfl, rfl, ne, hd, he, l1, l2, q⟩ := h
  cases rx
  obtain ⟨u, rfl, r1⟩ := vals1 rxs
  cases (show u = Value.ref e from r1)
  obtain ⟨z1, sy1, ys, rel1, dd1⟩ := dt_of I.hok hd
  obtain ⟨z2, sy2, zs, rel2, dd2⟩ := dt_of I.hok he
  have e1 := Paired.length rel1
  have e2 := Paired.length rel2
  obtain ⟨ks', kt⟩ := kt_all rel2 rel1
  refine call_update_dictH (knd := tupleKind (mixKind X.prog X.w)) (by show X.A.units + 1 < cLine; omega) ne sy2 dd1 dd2 (.inr ⟨keyed_apart tupleKind_stays dd2, ?_⟩) (Nat.le_trans (m := 200000) (by omega) (by decide +kernel)) fun h' g1 g2 sb => ?_
  · match zs, e2 with
    | [], _ => exact List.nodup_nil
    | [z], _ => exact List.pairwise_singleton _ _
    | _ :: _ :: _, e2 => simp at e2; omega
  · obtain ⟨o, es, ep, f1, f2, f3, f4, _, f5⟩ := g1
    have lk := Paired.length kt
    have ll := storedAllH_length zs ys
    refine ⟨.non, upd H d (.dT ks'), d_write (t' := s.toks) I (by rw [hd]; exact True.intro) sb ⟨o, f1⟩ ⟨Nat.le_trans (m := 200000) (by omega) (by decide +kernel), sy1, _, kt.keeps (fun b xs eb => ?_), o, es, ep, f1, f2, f3, f4, f5⟩, rfl, q ks'⟩
    exact (upd_ne (ne_of eb hd (fun z => nomatch z))).trans eb
end
end Tv

set_option Elab.async false
set_option linter.all false
set_option maxRecDepth 100000
set_option maxHeartbeats 4000000
/-! ### {i:03d} -/
namespace Tv
open PySem L2 Lay Own PySem.Spec PyProof.Rows Builtin Builtin.Str Builtin.Int Builtin.Float
/-- three digits -/
def pad3 (n : Nat) : Str := ⟨#[48 + n / 100, 48 + n / 10 % 10, 48 + n % 10]⟩
def sp03 : Str := "03d"
def f03 : FormatSpec := { fill := 48, align := 61, width := some 3, type := some 100 }
theorem f03_ok : parseFormatSpec sp03.cps.toList "int" 62 = .ok f03 := by rfl
theorem f03_txt : ∀ n < 1000, intField' f03 false [] ((Nat.toDigits 10 n).map fun c => (if (100 : Nat) == 88 then c.toUpper else c).toNat) [] 3 = pad3 n := by decide +kernel
theorem fmt_small {prog : Program} {w : World} {A : Around} {E : Value → Shared → Prop} {s : Shared} {a : Int} {t : Tok} {sp x : Str} {f : FormatSpec} {Q : Value → Shared → Prop} (sm : a.natAbs.log2 < 1920) (hp : parseFormatSpec sp.cps.toList "int" 62 = .ok f)
    (e1 : (sp.length == 0) = false) (e2 : ((sp.cps.toList.drop 1).any (· ≥ 128) || (sp.cps.getD 0 0 ≥ 128 && !([60, 62, 61, 94] : List Nat).contains (sp.cps.getD 1 0))) = false)
    (ty : f.type.getD (if sp.cps.back? == some 0 then 0 else 100) = 100) (pr : f.precision.isSome = false) (nz : f.noNeg0 = false) (al : f.alt = false) (wd : ¬ (f.width.getD 0 > 100000)) (gr : f.grouping = none) (sg : f.sign = none)
    (tx : intField' f (decide (a < 0)) [] ((Nat.toDigits 10 a.natAbs).map fun c => (if (100 : Nat) == 88 then c.toUpper else c).toNat) [] 3 = x) (hx : x.length ≤ sizeLine) (hs : sp.length ≤ sizeLine)
    (h : Q (.str x (s.toks + 1)) { s with toks := s.toks + 1 + 1 }) : wpAny (model prog w) A (formatField (.int a t) sp) Q E s := by
  show wpAny _ _ (holding [.int a t] (pyFormat (.int a t) sp)) Q E s
  refine wpAny_holding ?_
  unfold pyFormat
  refine wpAny_bind (wpAny_mkStr ?_ hs)
  refine wpAny_bind (m := callSpecial? (.int a t) (Str.ofString "__format__") [.str sp s.toks]) (wpAny_callSpecial?_slot (name := Str.ofString "__format__") (typeIs_int _ a t) F.slot_int_format ?_)
  refine wpAny_call (codeAny_call_builtin F.slot_int_format.plain F.entry_int_format (F.slot_int_format.check _ _ _ _ _ _ _ _ (typeIs_int _ a t) (F.args_int_format_2 _ _) ?_))
  unfold Builtin.«int.__format__»
  simp only [selfAndOne, noKeywords, Int.intOfSelf, asInt?, asStr?, List.isEmpty_nil, if_true, pure_bind, bind_pure, bind_assoc, e1, e2, Bool.false_eq_true, if_false, show (Value.str sp s.toks == Value.none) = false from rfl]
  refine wpAny_bind (wpAny_typeNameOf (T := "str") (typeIs_str _ _ _) (by decide) fun _ => wpAny_bind (wpAny_typeNameOfCut_int ?_))
  simp only [hp, ty]
  rw [if_pos (by decide)]
  show wpAny _ _ (if _ then _ else _) _ _ _
  rw [if_neg (by rw [pr]; exact Bool.false_ne_true)]
  show wpAny _ _ (if _ then _ else _) _ _ _
  rw [if_neg (by rw [nz]; exact Bool.false_ne_true)]
  show wpAny _ _ (if _ then _ else _) _ _ _
  rw [if_neg (by decide)]
  show wpAny _ _ (do let r ← Builtin.overDigitLimit? a; _) _ _ _
  rw [PySem.overDigitLimit_small sm, pure_bind]
  show wpAny _ _ (if _ then _ else _) _ _ _
  rw [if_neg (by simpa using wd)]
  show wpAny _ _ (retStr _) _ _ _
  have fin : ∀ y : Str, y = x → wpAny (model prog w) A.in1 (retStr y) (fun fin s' => match fin with
      | .done g => (match (Except.ok g : Result) with | .ok (.ret v) => wpAny (model prog w) A (do if ← isInstance v (.type "str") then pure v else (do rule "format.no-str"; let n ← typeNameOf v; raiseErrorMade "TypeError" (toString "__format__ must return a str, not " ++ toString n))) Q E s' | .ok _ => False | .error e => E e s')
      | .again c' => c'.quiet = true ∧ codeAny (model prog w) A c' (fun r s' => match r with | .ok (.ret v) => wpAny (model prog w) A (do if ← isInstance v (.type "str") then pure v else (do rule "format.no-str"; let n ← typeNameOf v; raiseErrorMade "TypeError" (toString "__format__ must return a str, not " ++ toString n))) Q E s' | .ok _ => False | .error e => E e s') s') (fun e s' => E e s') { s with toks := s.toks + 1 } := by
    intro y ey
    subst ey
    unfold retStr
    refine wpAny_bind (wpAny_mkStr (wpAny_pure ?_) hx)
    dsimp only
    exact wpAny_bind (wpAny_isInstance (typeIs_str _ _ _) isSubtype_str_str (wpAny_pure h))
  refine fin _ ?_
  rw [al, ← tx]
  clear fin h tx hx pr nz al wd ty hp
  obtain ⟨fi, ag, sgn, nn, alt, wi, grp, prc, typ⟩ := f
  cases (show sgn = none from sg)
  cases (show grp = none from gr)
  rfl
theorem small_lt {a : Int} (h0 : 0 ≤ a) (h1 : a < 1000) : a.natAbs.log2 < 1920 := by
  rcases Nat.eq_zero_or_pos a.natAbs with z | z
  · rw [z]; decide
  · exact Nat.lt_trans ((Nat.log2_lt (by omega)).mpr (show a.natAbs < 2 ^ 10 by omega)) (by decide)
section
variable {X : Cx}
/-- {i:03d} -/
def tFmt03 (te : TE) : TE := fun σ H Q => te σ H fun x H1 => ∃ n : Nat, x = .int n ∧ n < 1000 ∧ Q (.str (pad3 n)) H1
theorem pe_fmt03 {e : Expr} {te : TE} {pos pos2 pos3 : Pos} {k : Nat} (he : PE X e te) : PE X (.FormattedValue e (-1) (some (.JoinedStr [.Constant (.str sp03) k pos2] pos3)) pos) (tFmt03 te) := by
  refine ⟨fun pins s σ H Q I h => ?_⟩
  refine wpAny_FormattedValue_spec (thn (he.run pins s σ H _ I h) fun v s1 hv => ?_)
  obtain ⟨x, H1, I1, r1, n, rfl, hn, q⟩ := hv
  obtain ⟨t, rfl⟩ := r1
  have te := (pe_joined1 (pos := pos3) (pe_str (X := X) (x := sp03) (j := k) (pos := pos2))).run pins s1 σ H1 (fun y H2 => y = .str sp03 ∧ H2 = H1) I1 ⟨rfl, rfl⟩
  refine thn te fun r s2 ⟨y, H2, I2, ry, ey, eH⟩ => ?_
  subst ey eH
  obtain ⟨t2, rfl⟩ := ry
  refine ⟨sp03, t2, rfl, fmt_small (x := pad3 n) (small_lt (by omega) (by omega)) f03_ok (by decide +kernel) (by decide +kernel) (by decide +kernel) rfl rfl rfl (by decide) rfl rfl ?_ (by show (3 : Nat) ≤ sizeLine; decide +kernel) (by decide +kernel) ⟨.str (pad3 n), _, I2.tok _, ⟨_, rfl⟩, q⟩⟩
  rw [show decide ((n : Int) < 0) = false from decide_eq_false (by omega)]
  exact f03_txt n hn
end
end Tv

set_option Elab.async false
set_option linter.all false
set_option maxRecDepth 100000
set_option maxHeartbeats 4000000
/-! ### sorted texts, any number of them; with key=str -/
namespace Tv
open PySem L2 Lay Own PySem.Spec PyProof.Rows
theorem sd_rising : ∀ {l : List Str}, sortedS l = true → Sd strLt l
  | [], _ => List.Pairwise.nil
  | [x], _ => List.pairwise_singleton _ _
  | x :: y :: r, h => by
    obtain ⟨h1, h2⟩ := Bool.and_eq_true_iff.mp (show (!PySem.Spec.ltCps y.cps.toList x.cps.toList && risingS y r) = true from h)
    have ih := sd_rising (l := y :: r) h2
    rw [ltCps_eq, Bool.not_eq_true'] at h1
    refine List.pairwise_cons.mpr ⟨fun z hz => ?_, ih⟩
    rcases List.mem_cons.mp hz with rfl | hz
    · exact h1
    · exact tot_str.swo.tr _ _ _ h1 ((List.pairwise_cons.mp ih).1 z hz)
theorem strs_of : ∀ {ss : List Str} {us : List Value}, Vals (ss.map V.str) us → StrsAre us ss
  | [], _, r => by cases r; exact .nil
  | s :: ss, _, r => by
    rw [List.map_cons] at r
    cases r with
    | cons h t =>
      obtain ⟨tk, rfl⟩ := h
      exact .cons s tk (strs_of t)
theorem vals_strs : ∀ {ss : List Str} {us : List Value}, StrsAre us ss → Vals (ss.map V.str) us
  | _, _, .nil => .nil
  | _, _, .cons s t r => .cons ⟨t, rfl⟩ (vals_strs r)
section
variable {X : Cx}
/-- sorted(texts) -/
theorem cr_sortedSt : CallR X (.builtin "sorted") (fun vs H Q => ∃ a ss, vs = [.ref a] ∧ SqL X.K H a (ss.map V.str) ∧ ∀ ss' p, ss'.Perm ss → Sd strLt ss' → H p = none → Q (.ref p) (upd H p (.lst (ss'.map V.str)))) := by
  intro pins s σ H vs us Q I r h
  obtain ⟨a, ss, rfl, hs, q⟩ := h
  obtain ⟨its, rv, hl, hz⟩ := I.list hs
  rw [Vals.ref1 r]
  refine sorted_strsAny hl.isList (strs_of rv) (by rw [← rv.length]; exact hz) fun out ss' h1 h2 h3 => ?_
  obtain ⟨ep, he⟩ := sortedAll_at s.heap its out
  refine ⟨.ref (s.heap.objs.size + 1), upd H (s.heap.objs.size + 1) (.lst (ss'.map V.str)), I.laid (t' := s.toks) (fun _ _ => sortedAll_old) (Nat.le_succ _) ⟨by rw [List.length_map, h2.length_eq]; rw [List.length_map] at hz; exact hz, out.toList, ep, vals_strs h1, he⟩, rfl, q ss' _ h2 (sd_rising h3) (I.hok.fresh (Nat.le_succ _))⟩
open PySem.W in
theorem each_strs : ∀ {ss : List Str} {us : List Value}, Vals (ss.map V.str) us → EachIs (fun v x => ∃ t, v = Value.str x t) us ss
  | [], _, r => by cases r; exact .nil
  | s :: ss, _, r => by
    rw [List.map_cons] at r
    cases r with
    | cons h t => exact .cons h (each_strs t)
open PySem.W in
theorem strs_each : ∀ {ss : List Str} {us : List Value}, EachIs (fun v x => ∃ t, v = Value.str x t) us ss → Vals (ss.map V.str) us
  | _, _, .nil => .nil
  | _, _, .cons h t => .cons h (strs_each t)
open PySem.W in
theorem le_str (x y : Str) : dataLe false (fun z : Str => PyData.str z) x y = !strLt y x := by
  show (!PyProof.Rows.lexLt itemOrd [.inr y.cps.toList] [.inr x.cps.toList]) = _
  rw [lex_one]
  rfl
open PySem.W in
/-- sorted(texts, key=str) -/
theorem cr_sortedKS (hu : X.A.units + 70 < cLine) : CallRK X (.builtin "sorted") [Str.ofString "key"] (fun vs zs H Q => ∃ a ss, vs = [.ref a] ∧ zs = [.ty "str"] ∧ SqL X.K H a (ss.map V.str) ∧ ∀ ss' p, ss'.Perm ss → Sd strLt ss' → H p = none → Q (.ref p) (upd H p (.lst (ss'.map V.str)))) := by
  intro pins s σ H vs zs us ws Q I r rz h
  obtain ⟨a, ss, rfl, rfl, hs, q⟩ := h
  obtain ⟨its, rv, hl, hz⟩ := I.list hs
  rw [Vals.ref1 r]
  obtain ⟨w1, rfl, e1⟩ := vals1 rz
  obtain rfl : w1 = Value.type "str" := e1
  refine sorted_key_data (kw := [(Str.ofString "key", .type "str")]) (f := .type "str") (b := false) (fun z : Str => PyData.str z) hl.isList (each_strs rv) (fun d hd d' hd' => ?_) (.inr fun d hd => ?_) (by rw [List.length_map] at hz; exact hz) (fun x _ => ?_) (ksk_s1 _ _) (fun _ => ksk_l1 _ _) (fun x => rfl) (fun v x hv hx h tk kp => ?_) fun out c h' tk kp fr hD hl' he => ?_
  · obtain ⟨x, _, rfl⟩ := List.mem_map.mp hd
    obtain ⟨y, _, rfl⟩ := List.mem_map.mp hd'
    rfl
  · obtain ⟨x, _, rfl⟩ := List.mem_map.mp hd
    exact ⟨fun z => (nomatch z), fun xs z => (nomatch z)⟩
  · show X.A.units + 2 + (PyData.str x).depth < cLine
    simp only [PyData.depth]
    omega
  · obtain ⟨t, rfl⟩ := hv
    exact PySem.P.str_of_str ⟨h, tk, rfl, fun _ _ e => e, Reads.str x t⟩
  · have pm : (ss.mergeSort (dataLe false fun z : Str => PyData.str z)).Perm ss := List.mergeSort_perm _ _
    have sd : Sd strLt (ss.mergeSort (dataLe false fun z : Str => PyData.str z)) := by
      refine List.Pairwise.imp (fun {x y} h => ?_) (List.pairwise_mergeSort (le := dataLe false fun z : Str => PyData.str z) (fun x y z h1 h2 => ?_) (fun x y => ?_) ss)
      · rw [le_str, Bool.not_eq_true'] at h
        exact h
      · rw [le_str, Bool.not_eq_true'] at *
        exact tot_str.swo.tr _ _ _ h1 h2
      · rw [le_str, le_str]
        rcases hc : strLt y x with _ | _
        · rfl
        · rw [tot_str.asym hc]
          rfl
    have v' := strs_each he
    generalize ss.mergeSort (dataLe false fun z : Str => PyData.str z) = ss' at pm sd v'
    have hlen : (ss'.map V.str).length ≤ sizeLine := by
      rw [List.length_map, pm.length_eq]
      rw [List.length_map] at hz
      exact hz
    exact ⟨.ref (s.heap.objs.size + 1), upd H (s.heap.objs.size + 1) (.lst (ss'.map V.str)), I.laid (t' := tk) kp (Nat.le_succ _) ⟨hlen, out, c, v', hD⟩, rfl, q ss' _ pm sd (I.hok.fresh (Nat.le_succ _))⟩
end
end Tv

set_option Elab.async false
set_option linter.all false
set_option maxRecDepth 100000
set_option maxHeartbeats 4000000
/-! ### the sequence of places -/
namespace K63
open PySem L2 Lay Own SrtO Tv
def spLt (p q : Spot) : Bool := if p.1 = q.1 then strLt p.2 q.2 else decide (p.1 < q.1)
theorem tot_sp : Tot spLt where
  irr := fun x => by unfold spLt; rw [if_pos rfl]; exact tot_str.irr _
  tr := fun x y z h1 h2 => by
    unfold spLt at *
    by_cases c1 : x.1 = y.1
    · rw [if_pos c1] at h1
      by_cases c2 : y.1 = z.1
      · rw [if_pos c2] at h2
        rw [if_pos (c1.trans c2)]
        exact tot_str.tr _ _ _ h1 h2
      · rw [if_neg c2] at h2
        rw [if_neg (by omega)]
        have := of_decide_eq_true h2
        exact decide_eq_true (by omega)
    · rw [if_neg c1] at h1
      have a := of_decide_eq_true h1
      by_cases c2 : y.1 = z.1
      · rw [if_neg (by omega)]
        exact decide_eq_true (by omega)
      · rw [if_neg c2] at h2
        have b := of_decide_eq_true h2
        rw [if_neg (by omega)]
        exact decide_eq_true (by omega)
  tri := fun x y => by
    unfold spLt
    by_cases c : x.1 = y.1
    · rw [if_pos c, if_pos c.symm]
      rcases tot_str.tri x.2 y.2 with h | h | h
      · exact .inl h
      · exact .inr (.inl (Prod.ext c h))
      · exact .inr (.inr h)
    · rw [if_neg c, if_neg (fun z => c z.symm)]
      rcases Int.lt_or_lt_of_ne c with h | h
      · exact .inl (decide_eq_true h)
      · exact .inr (.inr (decide_eq_true h))
/-- the text of a place -/
def tx (p : Spot) : Str := pad3 p.1.toNat ++ p.2
theorem tx_cps (p : Spot) : (tx p).cps.toList = (48 + p.1.toNat / 100) :: (48 + p.1.toNat / 10 % 10) :: (48 + p.1.toNat % 10) :: p.2.cps.toList := by
  show ((pad3 p.1.toNat).cps ++ p.2.cps).toList = _
  rw [Array.toList_append]
  rfl
theorem tx_lt {p q : Spot} (p0 : 0 ≤ p.1) (p1 : p.1 < 1000) (q0 : 0 ≤ q.1) (q1 : q.1 < 1000) (h : spLt p q = true) : strLt (tx p) (tx q) = true := by
  refine decide_eq_true ?_
  rw [tx_cps, tx_cps]
  unfold spLt at h
  by_cases c : p.1 = q.1
  · rw [if_pos c] at h
    rw [c]
    exact List.Lex.cons (List.Lex.cons (List.Lex.cons (of_decide_eq_true h)))
  · rw [if_neg c] at h
    have h' := of_decide_eq_true h
    obtain ⟨n, hn⟩ := Int.eq_ofNat_of_zero_le p0
    obtain ⟨k, hk⟩ := Int.eq_ofNat_of_zero_le q0
    have lt : n < k := by omega
    have e1 : p.1.toNat = n := by omega
    have e2 : q.1.toNat = k := by omega
    have k1 : k < 1000 := by omega
    rw [e1, e2]
    clear hn hk h' h c p0 p1 q0 q1 e1 e2
    by_cases c1 : n / 100 = k / 100
    · by_cases c2 : n / 10 % 10 = k / 10 % 10
      · rw [c1, c2]
        exact List.Lex.cons (List.Lex.cons (List.Lex.rel (by omega)))
      · rw [c1]
        exact List.Lex.cons (List.Lex.rel (by omega))
    · exact List.Lex.rel (by omega)
theorem tx_inj {p q : Spot} (p0 : 0 ≤ p.1) (p1 : p.1 < 1000) (q0 : 0 ≤ q.1) (q1 : q.1 < 1000) (h : tx p = tx q) : p = q := by
  rcases tot_sp.tri p q with c | c | c
  · have z := tx_lt p0 p1 q0 q1 c
    rw [h, tot_str.irr] at z
    cases z
  · exact c
  · have z := tx_lt q0 q1 p0 p1 c
    rw [h, tot_str.irr] at z
    cases z
/-- in sequence -/
def InSeq (S : List Row) : Prop := Sd spLt (S.map (·.1))
theorem seq_of {S : List Row} (h : Sd strLt (S.map fun r => tx r.1)) (b : ∀ r ∈ S, 0 ≤ r.1.1 ∧ r.1.1 < 1000) : InSeq S := by
  unfold InSeq Sd at *
  rw [List.pairwise_map] at *
  refine List.Pairwise.imp_of_mem (fun {x y} hx hy e => ?_) h
  cases c : spLt y.1 x.1 with
  | false => rfl
  | true =>
    rw [tx_lt (b y hy).1 (b y hy).2 (b x hx).1 (b x hx).2 c] at e
    cases e
theorem key_row {R : List Row} (nd : (R.map (·.1)).Nodup) {r q : Row} (hr : r ∈ R) (hq : q ∈ R) (e : r.1 = q.1) : r = q := by
  induction R with
  | nil => cases hr
  | cons x R ih =>
    rw [List.map_cons, List.nodup_cons] at nd
    rcases List.mem_cons.mp hr with h1 | hr
    · rcases List.mem_cons.mp hq with h2 | hq
      · rw [h1, h2]
      · exact absurd (List.mem_map.mpr ⟨q, hq, by rw [← e, h1]⟩) nd.1
    · rcases List.mem_cons.mp hq with h2 | hq
      · exact absurd (List.mem_map.mpr ⟨r, hr, by rw [e, h2]⟩) nd.1
      · exact ih nd.2 hr hq
/-- what is in sequence stands so in one way alone -/
theorem seq_one {R S L : List Row} (nd : (R.map (·.1)).Nodup) (h1 : S.Perm R) (h2 : L.Perm R) (s1 : InSeq S) (s2 : InSeq L) : S = L := by
  have e : S.map (·.1) = L.map (·.1) := sd_uniq tot_sp ((h1.trans h2.symm).map _) s1 s2
  refine List.ext_getElem? fun i => ?_
  have ei : (S.map (·.1))[i]? = (L.map (·.1))[i]? := by rw [e]
  rw [List.getElem?_map, List.getElem?_map] at ei
  cases a : S[i]? with
  | none =>
    rw [a] at ei
    cases b : L[i]? with
    | none => rfl
    | some y => rw [b] at ei; cases ei
  | some x =>
    rw [a] at ei
    cases b : L[i]? with
    | none => rw [b] at ei; cases ei
    | some y =>
      rw [b] at ei
      exact congrArg some (key_row nd (h1.mem_iff.mp (List.mem_of_getElem? a)) (h2.mem_iff.mp (List.mem_of_getElem? b)) (Option.some.inj ei))
theorem find_mem {R : List Row} {p : Spot} {r : Row} (h : R.find? (fun r => decide (r.1 = p)) = some r) : r ∈ R ∧ r.1 = p :=
  ⟨List.mem_of_find?_eq_some h, of_decide_eq_true (show decide (r.1 = p) = true from List.find?_some (p := fun r : Row => decide (r.1 = p)) h)⟩
theorem mem_find {R : List Row} (nd : (R.map (·.1)).Nodup) {r : Row} (h : r ∈ R) : R.find? (fun q => decide (q.1 = r.1)) = some r := by
  cases e : R.find? (fun q => decide (q.1 = r.1)) with
  | none => exact absurd rfl (find_none.mp e r h)
  | some q =>
    obtain ⟨h1, h2⟩ := find_mem e
    rw [key_row nd h1 h h2]
end K63

set_option Elab.async false
set_option linter.all false
set_option maxRecDepth 100000
set_option maxHeartbeats 4000000
namespace K63
open PySem L2 Lay Own SrtO Tv
local macro_rules | `(tactic| walk_at "ne") => `(tactic| first | assumption | (apply Ne.symm; assumption) | exact ne_of_none (by walk_at "look") (by assumption) | exact (ne_of_none (by walk_at "look") (by assumption)).symm)
local macro_rules | `(tactic| walk_at "look") => `(tactic| first | assumption | exact upd_same | (refine Eq.trans (upd_ne ?_) ?_; walk_at "ne"; walk_at "look"))
local macro_rules | `(tactic| walk_at "rds") => `(tactic| first | rfl | assumption | walk_at "look" | exact SqL.of (by walk_at "look") | exact SqT.of (by walk_at "look") | exact Or.inl (SqL.of (by walk_at "look")) | exact Or.inl (by assumption) | decide | omega | exact Nat.le_of_ble_eq_true rfl | exact Or.inr ⟨by decide, by decide⟩ | exact Or.inl ⟨by omega, by omega⟩ | exact ⟨by decide, by decide⟩)
local macro_rules | `(tactic| walk_at "rd1") => `(tactic| first | (apply Exists.intro) | (refine And.intro ?_ ?_; walk_at "rds") | (refine Or.inl ?_; apply Exists.intro; refine And.intro ?_ ?_; rfl))
local macro_rules | `(tactic| walk_at "rd") => `(tactic| repeat walk_at "rd1")
section
variable {P : Program} {w : World} {K : PySem.W.Frag} {mg : Str → Option Value} {base : Heap}
/-- an entry of the dict of texts -/
def WR (H : Hp) (kv : Key × V) (r : Row) : Prop := kv.1 = .inr (tx r.1) ∧ ∃ a, kv.2 = .ref a ∧ H a = some (.tup [.int r.1.1, .str r.1.2])
theorem WR.same {H H' : Hp} {kv : Key × V} {r : Row} (h : WR H kv r) (s : L2.Same H H') : WR H' kv r := by
  obtain ⟨e, a, e2, h⟩ := h
  exact ⟨e, a, e2, s _ _ h⟩
theorem WR.mut {H : Hp} {D : Addr} {ks ls : List (Key × V)} {kv : Key × V} {r : Row} (hD : H D = some (.dK ks)) (h : WR H kv r) : WR (upd H D (.dK ls)) kv r := by
  obtain ⟨e, a, e2, h⟩ := h
  exact ⟨e, a, e2, (upd_ne fun z => by rw [z, hD] at h; cases h).trans h⟩
theorem wr_keys {H : Hp} {kvs : List (Key × V)} {R : List Row} (h : Paired (WR H) kvs R) : kvs.map (·.1) = R.map fun r => (Sum.inr (tx r.1) : Key) := by
  induction h with
  | nil => rfl
  | cons e _ ih => rw [List.map_cons, List.map_cons, ih, e.1]
theorem wr_at {H : Hp} {kvs : List (Key × V)} {R : List Row} (b : ∀ r ∈ R, 0 ≤ r.1.1 ∧ r.1.1 < 1000) (nd : (R.map (·.1)).Nodup) (h : Paired (WR H) kvs R) {r : Row} (hr : r ∈ R) : ∃ a, valV kvs (.inr (tx r.1)) = some (.ref a) ∧ H a = some (.tup [.int r.1.1, .str r.1.2]) := by
  induction h with
  | nil => cases hr
  | @cons kv q kvs R e _ ih =>
    rw [List.map_cons, List.nodup_cons] at nd
    by_cases c : kv.1 = (.inr (tx r.1) : Key)
    · rw [L2.valV_pos c]
      obtain ⟨e1, a, e2, e3⟩ := e
      rw [e1] at c
      have z := tx_inj (b q (List.mem_cons_self ..)).1 (b q (List.mem_cons_self ..)).2 (b r hr).1 (b r hr).2 (Sum.inr.inj c)
      rw [← z]
      exact ⟨a, by rw [e2], e3⟩
    · rw [L2.valV_neg c]
      rcases List.mem_cons.mp hr with h1 | hr
      · rw [h1] at c
        exact absurd e.1 c
      · exact ih (fun r hr => b r (List.mem_cons_of_mem _ hr)) nd.2 hr
theorem val_absent {ks : List (Key × V)} {k : Key} (h : k ∉ ks.map (·.1)) : valV ks k = none := by
  induction ks with
  | nil => rfl
  | cons p ks ih =>
    rw [List.map_cons, List.mem_cons, not_or] at h
    rw [L2.valV_neg (fun z => h.1 z.symm)]
    exact ih h.2
def spSeq : Sp := fun vs H Q _ => ∃ d m ns R, vs = [.ref d] ∧ MT H d R ∧ MOk m ns R ∧ NsOk ns ∧ m ≤ 500 ∧ R.length ≤ 200 ∧ ∀ e S H', L2.Same H H' → H e = none → MT H' e S → S.Perm R → InSeq S → Q (.ref e) H'
theorem d_in_sequence (T : Txt K mg) : Df P w K mg base 1 "in_sequence" ["partners"] spSeq := by
  refine T.S_in_sequence.by sc_in_sequence (fun vs H Q E h => ?_) (fun f cdv A outer s H vs Q E hr hgd h => ?_)
  · obtain ⟨d, m, ns, R, rfl, _⟩ := h; rfl
  · obtain ⟨d, m, ns, R, rfl, mt, ok, nok, m5, lR, k⟩ := h
    refine ⟨_, (pss_cons (ps_set (i := 1) sc_in_sequence.nd rfl (by first | exact Or.inl rfl | exact Or.inr rfl) (pe_lock (Tv.pe_dcA (own := [("remainder", 2), ("name", 3)]) (u := .dK []) (hu_of hr) (fun H h hb => dk_empty h hb) rfl sc_in_sequence.nd (pi_keys (pv 0)) (blkOk_by (own := [("remainder", 2), ("name", 3)]) (N := ["partners", "written", "remainder", "name", "text"]) (sc := defScope s_in_sequence) (by decide +kernel)) (fun _ _ _ _ _ => (pg_tupK (K := K) (n := 2) rfl rfl (pgs_cons (pg_name (i := 2) sc_in_sequence.nd rfl (by first | exact Or.inl rfl | exact Or.inr rfl)) (pgs_cons (pg_name (i := 3) sc_in_sequence.nd rfl (by first | exact Or.inl rfl | exact Or.inr rfl)) pgs_nil)))) (fun _ _ _ _ _ => pts_nil) (fun _ _ _ _ _ => (pe_joined (.cons (pe_fmt03 (pv 2)) (.cons (pe_fmt (pv 3)) .nil)))) (fun _ _ _ _ _ => (pe_tup (pa_cons (pv 2) (pa_cons (pv 3) pa_nil)))))))
      (pss_one (ps_ret (Tv.pe_dcA (own := [("text", 4)]) (u := .dT []) (hu_of hr) (fun H h hb => dt_empty h hb) rfl sc_in_sequence.nd (pi_list (pe_callB cr_sortedSt (by rfl) T.n_sorted (by decide +kernel) (pa_cons (pe_lock (pe_lc (own := [("text", 4)]) rfl sc_in_sequence.nd (pi_keys (pv 1)) (blkOk_by (own := [("text", 4)]) (N := ["partners", "written", "remainder", "name", "text"]) (sc := defScope s_in_sequence) (by decide +kernel)) (fun _ _ _ _ _ => (pg_name (i := 4) sc_in_sequence.nd rfl (by first | exact Or.inl rfl | exact Or.inr rfl))) (fun _ _ _ _ _ => pts_nil) (fun _ _ _ _ _ => (pe_callTy SkE.call_str_str (by rfl) T.n_str (by decide +kernel) (pa_cons (pv 4) pa_nil))))) pa_nil))) (blkOk_by (own := [("text", 4)]) (N := ["partners", "written", "remainder", "name", "text"]) (sc := defScope s_in_sequence) (by decide +kernel)) (fun _ _ _ _ _ => (pg_name (i := 4) sc_in_sequence.nd rfl (by first | exact Or.inl rfl | exact Or.inr rfl))) (fun _ _ _ _ _ => pts_nil) (fun _ _ _ _ _ => (pe_dget (hu_of hr) (pv 1) (pv 4) (fun _ _ => rfl))) (fun _ _ _ _ _ => (pe_dget (hu_of hr) (pv 0) (pe_dget (hu_of hr) (pv 1) (pv 4) (fun _ _ => rfl)) (fun _ _ => rfl))))))), ?_⟩
    have bd : ∀ r ∈ R, 0 ≤ r.1.1 ∧ r.1.1 < 1000 := fun r hr => by
      obtain ⟨a, b, _⟩ := ok.at_ r hr
      omega
    refine ⟨d, .dT _, mt.1, trivial, fun od => ?_⟩
    refine ⟨_, rfl, d, od, rfl, .inr ⟨_, upd_same, fun D nD => ?_⟩⟩
    refine dcA_it (walk_keysT (kvs := R.map fun r => (tk r.1, V.ref r.2.1))) (fun i H' => L2.Same (upd H d (.frz od (.dT (R.map fun r => (tk r.1, V.ref r.2.1))))) H' ∧ ∃ kvs, H' D = some (.dK kvs) ∧ Paired (WR H') kvs (R.take i))
      ⟨Same.new nD, [], upd_same, .nil⟩ (fun i H' _ q => q.1 _ _ upd_same) (fun i x H1 H2 hi q y => ?_) (fun H1 q => ?_)
    · obtain ⟨sm, kvs, hD, pr⟩ := q
      obtain ⟨rfl, kk, vv, qq, hkv, rfl, hq⟩ := y
      rw [List.length_map] at hi
      have hri : R[i]? = some R[i] := List.getElem?_eq_getElem hi
      rw [List.getElem?_map, hri] at hkv
      cases hkv
      have hr_ : R[i] ∈ R := List.getElem_mem hi
      have tki : R.take (i + 1) = R.take i ++ [R[i]] := by rw [List.take_add_one, hri]; rfl
      generalize hR : R[i] = r at hri hr_ tki hq
      obtain ⟨b0, b1⟩ := bd r hr_
      have wd := nok.ok _ (ok.at_ r hr_).2.2
      have wl := wd.len
      refine ⟨qq, _, rfl, SqT.of hq, rfl, _, _, rfl, _, _, rfl, rfl, rfl, ?_⟩
      refine ⟨_, rfl, r.1.1.toNat, congrArg V.int (show r.1.1 = ((r.1.1.toNat : Nat) : Int) by omega), by omega, _, rfl, by show (3 : Nat) ≤ sizeLine; decide +kernel, _, rfl, .inl ⟨r.1.2, rfl, Nat.le_trans wl (by decide), _, rfl, ?_, ?_⟩⟩
      · rw [strLen_append]
        show 3 + r.1.2.length ≤ sizeLine
        exact Nat.le_trans (m := 11) (by omega) (by decide +kernel)
      have et : ((Str.empty ++ pad3 r.1.1.toNat) ++ r.1.2 : Str) = tx r.1 := by
        rw [Str.empty_append]
        rfl
      rw [et]
      refine ⟨_, rfl, _, rfl, by show (2 : Nat) ≤ sizeLine; decide +kernel, fun u nu => ?_⟩
      have s1 := Same.new (o := .tup [V.int r.1.1, V.str r.1.2]) nu
      have hD1 := s1 _ _ hD
      have hu := (upd_same : (upd H2 u (.tup [V.int r.1.1, V.str r.1.2])) u = _)
      have lk := pr.length
      have lt : kvs.length < sizeLine := by
        rw [lk]
        exact Nat.lt_of_le_of_lt (List.length_take_le' _ _) (Nat.lt_of_le_of_lt lR (by decide +kernel))
      refine ⟨_, DPut.k (k := .inr (tx r.1)) hD1 lt, Same.mut (sm.trans s1) nD, kvs ++ [(.inr (tx r.1), .ref u)], ?_, ?_⟩
      · rw [L2.putK_new _ (val_absent ?_)]
        · exact upd_same
        · rw [wr_keys pr]
          intro z
          obtain ⟨q, hq, e⟩ := List.mem_map.mp z
          have hqR := List.mem_of_mem_take hq
          have e2 := tx_inj (bd q hqR).1 (bd q hqR).2 b0 b1 (Sum.inr.inj e)
          have e3 := key_row ok.nd hqR hr_ e2
          have nd : R.Nodup := List.Pairwise.imp (fun {a b} h e => h (congrArg _ e)) (List.pairwise_map.mp ok.nd)
          rw [e3] at hq
          obtain ⟨j, hj⟩ := List.mem_iff_getElem?.mp hq
          rw [List.getElem?_take] at hj
          by_cases c : j < i
          · rw [if_pos c] at hj
            have := (List.getElem?_inj (List.getElem?_eq_some_iff.mp hj).1 nd).mp (hj.trans hri.symm)
            omega
          · rw [if_neg c] at hj
            cases hj
      · rw [tki]
        refine pd_app (L2.Paired.mapP pr fun a b h => (h.same s1).mut hD1) (.cons ?_ .nil)
        exact WR.mut hD1 ⟨rfl, u, rfl, hu⟩
    · obtain ⟨sm, kvs, hD, pr⟩ := q
      rw [List.length_map, List.take_length] at pr
      have fz := sm _ _ upd_same
      refine ⟨fz, ?_⟩
      have t1 := lock_same mt.1 sm
      have hD1 : (upd H1 d (.dT (R.map fun r => (tk r.1, V.ref r.2.1)))) D = some (.dK kvs) := (upd_ne fun z => by rw [z, fz] at hD; cases hD).trans hD
      have pr1 : Paired (WR (upd H1 d (.dT (R.map fun r => (tk r.1, V.ref r.2.1))))) kvs R := L2.Paired.mapP pr fun a b h => by
        obtain ⟨e, x, e2, h⟩ := h
        exact ⟨e, x, e2, (upd_ne fun z => by rw [z, fz] at h; cases h).trans h⟩
      have nDH : H D = none := by
        by_cases c : D = d
        · rw [c, upd_same] at nD; cases nD
        · rw [upd_ne c] at nD; exact nD
      generalize upd H1 d (.dT (R.map fun r => (tk r.1, V.ref r.2.1))) = G at t1 hD1 pr1
      clear sm hD pr fz nD
      refine ⟨D, .dK kvs, hD1, trivial, fun od2 => ?_⟩
      have lkv : kvs.length = R.length := pr1.length
      refine ⟨_, rfl, D, od2, rfl, .inl ⟨_, upd_same, fun L nL => ?_⟩⟩
      refine lc_pure (walk_keys (kvs := kvs)) nL (by omega) (fun _ sm => sm _ _ upd_same) (fun i y => ∃ r, R[i]? = some r ∧ y = V.str (tx r.1)) (fun i x H5 H6 Kn Z hi sm y q => ?_) (fun H5 ys sm hL hl hr' => ?_)
      · obtain ⟨rfl, kk, vv, hkv, rfl⟩ := y
        obtain ⟨r, hr1, e1, _⟩ := pd_at pr1 hkv
        have e1' : kk = .inr (tx r.1) := e1
        subst e1'
        exact ⟨rfl, _, rfl, _, rfl, q _ _ (Same.refl _) ⟨r, hr1, rfl⟩⟩
      have fz := sm _ _ upd_same
      refine ⟨fz, ?_⟩
      have t2 := lock_same hD1 sm
      have ey : ys = (R.map fun r => tx r.1).map V.str := by
        refine List.ext_getElem? fun i => ?_
        rw [List.getElem?_map, List.getElem?_map]
        by_cases c : i < ys.length
        · obtain ⟨r, h1, h2⟩ := hr' i _ (List.getElem?_eq_getElem c)
          rw [h1, List.getElem?_eq_getElem c, h2]
          rfl
        · rw [List.getElem?_eq_none (by omega), List.getElem?_eq_none (by omega)]
          rfl
      subst ey
      have hL1 : (upd H5 D (.dK kvs)) L = some (.lst ((R.map fun r => tx r.1).map V.str)) := (upd_ne fun z => by rw [z, fz] at hL; cases hL).trans hL
      generalize upd H5 D (.dK kvs) = G2 at t2 hL1
      have mt2 := (mt.same t1).same t2
      have pr2 : Paired (WR G2) kvs R := L2.Paired.mapP pr1 fun a b h => h.same t2
      have hD2 := t2 _ _ hD1
      clear sm hL hl hr' nL fz
      refine ⟨L, _, rfl, SqL.of hL1, fun ss' p pm sd np => ?_⟩
      obtain ⟨S, pS, rfl⟩ := perm_lift (fun r : Row => tx r.1) pm R rfl
      have t3 := Same.new (o := .lst ((S.map fun r => tx r.1).map V.str)) np
      have hp3 := (upd_same : (upd G2 p (.lst ((S.map fun r => tx r.1).map V.str))) p = _)
      generalize upd G2 p (.lst ((S.map fun r => tx r.1).map V.str)) = G3 at t3 hp3
      have mt3 := mt2.same t3
      have pr3 : Paired (WR G3) kvs R := L2.Paired.mapP pr2 fun a b h => h.same t3
      have hD3 := t3 _ _ hD2
      have tH : L2.Same H G3 := t1.trans (t2.trans t3)
      clear mt2 pr2 hD2 t3 hL1 np
      refine ⟨p, rfl, ⟨_, SqL.of hp3⟩, fun E nE => ?_⟩
      have lS : S.length = R.length := pS.length_eq
      refine dcA_it (walk_list (xs := (S.map fun r => tx r.1).map V.str)) (fun i H' => L2.Same G3 H' ∧ H' E = some (.dT ((S.take i).map fun r => (tk r.1, V.ref r.2.1)))) ⟨Same.new nE, upd_same⟩ (fun i H' _ q => SqL.of (q.1 _ _ hp3)) (fun i x H6 H7 hi q y => ?_) (fun H6 q => ?_)
      · obtain ⟨sm, hE⟩ := q
        obtain ⟨rfl, hx⟩ := y
        rw [List.length_map, List.length_map] at hi
        have hsi : S[i]? = some S[i] := List.getElem?_eq_getElem hi
        rw [List.getElem?_map, List.getElem?_map, hsi] at hx
        cases hx
        have tki : S.take (i + 1) = S.take i ++ [S[i]] := by rw [List.take_add_one, hsi]; rfl
        have hr_ : S[i] ∈ R := pS.mem_iff.mp (List.getElem_mem hi)
        generalize S[i] = r at hsi hr_ tki
        obtain ⟨a, ha, hta⟩ := wr_at bd ok.nd pr3 hr_
        have hta2 := sm _ _ hta
        have g1 : DGet H7 D (.str (tx r.1)) (some (.ref a)) := .inl ⟨kvs, .inr (tx r.1), .inl (sm _ _ hD3), rfl, ha.symm⟩
        have g2 : DGet H7 d (.ref a) (some (.ref r.2.1)) := .inr ⟨_, tk r.1, a, .inl (sm _ _ mt3.1), rfl, hta2, (row_val ok.nd hr_).symm⟩
        have lt : ((S.take i).map fun r => (tk r.1, V.ref r.2.1)).length < sizeLine := by
          rw [List.length_map]
          exact Nat.lt_of_le_of_lt (List.length_take_le' _ _) (Nat.lt_of_le_of_lt (m := 200) (by omega) (by decide +kernel))
        refine ⟨rfl, _, rfl, _, rfl, D, _, rfl, g1, _, rfl, _, rfl, _, rfl, D, _, rfl, g1, d, _, rfl, g2, _, DPut.t (k := tk r.1) hE hta2 lt, Same.mut sm nE, ?_⟩
        rw [tki, List.map_append, L2.putK_new _ (val_none.mpr fun q hq e => ?_)]
        · exact upd_same
        · have hqS := List.mem_of_mem_take hq
          have e3 := key_row ok.nd (pS.mem_iff.mp hqS) hr_ e
          rw [e3] at hq
          have nd : S.Nodup := pS.nodup_iff.mpr (List.Pairwise.imp (fun {a b} h e => h (congrArg _ e)) (List.pairwise_map.mp ok.nd))
          obtain ⟨j, hj⟩ := List.mem_iff_getElem?.mp hq
          rw [List.getElem?_take] at hj
          by_cases c : j < i
          · rw [if_pos c] at hj
            have := (List.getElem?_inj (List.getElem?_eq_some_iff.mp hj).1 nd).mp (hj.trans hsi.symm)
            omega
          · rw [if_neg c] at hj
            cases hj
      · obtain ⟨sm, hE⟩ := q
        rw [List.length_map, List.length_map, List.take_length] at hE
        refine k E S H6 (tH.trans sm) (tH.free nE) ⟨hE, fun r hr => sm _ _ (mt3.2 r (pS.mem_iff.mp hr))⟩ pS (seq_of sd fun r hr => bd r (pS.mem_iff.mp hr))
end
end K63

set_option Elab.async false
set_option linter.all false
set_option maxRecDepth 100000
set_option maxHeartbeats 4000000
namespace K63
open PySem L2 Lay Own SrtO Tv Ow
local macro_rules | `(tactic| walk_at "ne") => `(tactic| first | assumption | (apply Ne.symm; assumption) | exact ne_of_none (by walk_at "look") (by assumption) | exact (ne_of_none (by walk_at "look") (by assumption)).symm)
local macro_rules | `(tactic| walk_at "look") => `(tactic| first | assumption | exact upd_same | (refine Eq.trans (upd_ne ?_) ?_; walk_at "ne"; walk_at "look"))
local macro_rules | `(tactic| walk_at "rds") => `(tactic| first | rfl | assumption | walk_at "look" | exact SqL.of (by walk_at "look") | exact SqT.of (by walk_at "look") | exact Or.inl (SqL.of (by walk_at "look")) | exact Or.inl (by assumption) | decide | omega | exact Nat.le_of_ble_eq_true rfl | exact Or.inr ⟨by decide, by decide⟩ | exact Or.inl ⟨by omega, by omega⟩ | exact ⟨by decide, by decide⟩)
local macro_rules | `(tactic| walk_at "rd1") => `(tactic| first | (apply Exists.intro) | (refine And.intro ?_ ?_; walk_at "rds") | (refine Or.inl ?_; apply Exists.intro; refine And.intro ?_ ?_; rfl))
local macro_rules | `(tactic| walk_at "rd") => `(tactic| repeat walk_at "rd1")
theorem un70 {k : Nat} {B : Around} (hr : Room k B) : B.units + 70 < cLine := by
  have := hr.un
  omega
section
variable {P : Program} {w : World} {K : PySem.W.Frag} {mg : Str → Option Value} {base : Heap}
/-! methods, by their bodies -/
def MDf (P : Program) (w : World) (K : PySem.W.Frag) (mg : Str → Option Value) (base : Heap) (k : Nat) (g : Addr) (ps : List Str) (sp : Sp) : Prop := ∃ fd, FnG P w K mg base CX0 k g fd ps sp ∧ Binds K fd ps [] ∧ Kw1 fd ps ∧ Rx.Kw2 fd ps ∧ Ow.Kw3 fd ps
theorem MDf.fp {k : Nat} {g : Addr} {ps : List Str} {sp : Sp} (D : MDf P w K mg base k g ps sp) : FnP P w K mg base k g sp := by
  obtain ⟨fd, F, b, _⟩ := D
  exact .ofG F b
theorem Ms.by {m qual : Str} {st : Stmt} {g : Addr} {ps N : List Str} {k : Nat} {sp : Sp} (S : Ms K m qual st g ps) (sc : FnScope N ps (defScope st)) (len : ∀ vs H Q E, sp vs H Q E → vs.length = ps.length)
    (hbody : ∀ (f : Addr) (cdv : Value) (A : Around) (outer : List Env) (s : Shared) (H : Hp) (vs : List V) (Q : VK) (E : XK),
      Room k (A.deeper (PyProof.Rows.envOfC qual (defScope st) s.heap.objs.size f cdv)) → A.guards = some [] → sp vs H Q E →
      ∃ t, PSs (cxOf CX0 P w K mg base N qual (defScope st) f cdv A outer s H E).nox (defBody st) t ∧ t { nx := fun _ H' => Q .non H', rt := Q } (L2.start N vs) H) : MDf P w K mg base (k + 1) g ps sp := by
  obtain ⟨fd, F, b⟩ := S
  exact ⟨fd, okG F sc len (hbody g), b⟩
/-! a plan -/
def PlanAt (K : PySem.W.Frag) (H : Hp) (a : Addr) (m : Int) (S : List Row) : Prop := ∃ dx d, H a = some (.ins (kp K) dx [("_period", .int m), ("_partners", .ref d)]) ∧ H dx = some (.own a) ∧ MT H d S
theorem PlanAt.same {H H' : Hp} {a : Addr} {m : Int} {S : List Row} (h : PlanAt K H a m S) (s : L2.Same H H') : PlanAt K H' a m S := by
  obtain ⟨dx, d, h1, h2, h3⟩ := h
  exact ⟨dx, d, s _ _ h1, s _ _ h2, h3.same s⟩
/-- its dict is new -/
def PlanNew (K : PySem.W.Frag) (H H' : Hp) (x : Addr) (m : Int) : Prop := ∃ dx e, H' x = some (.ins (kp K) dx [("_period", .int m), ("_partners", .ref e)]) ∧ H e = none
def spIni (K : PySem.W.Frag) : Sp := fun vs H Q _ => ∃ x dx d m ns R, vs = [.ref x, .int m, .ref d] ∧ H x = some (.ins (kp K) dx []) ∧ H dx = some (.own x) ∧ MT H d R ∧ MOk m ns R ∧ NsOk ns ∧ 1 ≤ m ∧ m ≤ 500 ∧ R.length ≤ 200 ∧
  ∀ S H', (∀ b o, H b = some o → b ≠ x → H' b = some o) → PlanAt K H' x m S → PlanNew K H H' x m → S.Perm R → InSeq S → Q .non H'
theorem d_init (T : Txt K mg) : MDf P w K mg base 7 (He.ma K (kp K) "__init__") ["self", "period", "partners"] (spIni K) := by
  have D_is_period := d_is_period (P := P) (w := w) (base := base) T
  have D_is_partners := d_is_partners (P := P) (w := w) (base := base) T
  have D_in_sequence := d_in_sequence (P := P) (w := w) (base := base) T
  refine T.M___init__.by sc_Plan___init (fun vs H Q E h => ?_) (fun f cdv A outer s H vs Q E hr hgd h => ?_)
  · obtain ⟨x, dx, d, m, ns, R, rfl, _⟩ := h; rfl
  · obtain ⟨x, dx, d, m, ns, R, rfl, hx, hdx, mt, ok, nok, m1, m5, lR, k⟩ := h
    refine ⟨_, (pss_cons (ps_if (pt_not (pt_val (pe_own D_is_period (hr.mono (by first | decide | omega)) hgd (pa_cons (pv 1) pa_nil)))) (pss_one ps_never) pss_nil)
      (pss_cons (ps_if (PW.pt (pw_and (pt_not (pt_val (pe_callB (Exv.call_isE T.gs) (by rfl) T.n_isinstance (by decide +kernel) (pa_cons (pv 2) (pa_cons (pe_glob (v := .ref (He.ga K "Made")) (by rfl) T.g_Made rfl) pa_nil))))) (pw_and1 (pt_not (pt_val (pe_own D_is_partners (hr.mono (by first | decide | omega)) hgd (pa_cons (pv 1) (pa_cons (pv 2) pa_nil)))))))) (pss_one ps_never) pss_nil)
      (pss_cons (ps_fld (pv 0) (pv 1) rfl)
      (pss_one (ps_fld (pv 0) (pe_ifExp (pt_val (pe_callB (Exv.call_isE T.gs) (by rfl) T.n_isinstance (by decide +kernel) (pa_cons (pv 2) (pa_cons (pe_glob (v := .ref (He.ga K "Made")) (by rfl) T.g_Made rfl) pa_nil)))) (pe_fld (pv 2) rfl) (pe_own D_in_sequence (hr.mono (by first | decide | omega)) hgd (pa_cons (pv 2) pa_nil))) rfl))))), ?_⟩
    have km := T.km "dict" (by simp [Ty7])
    have ty : ∀ {G : Hp}, L2.Same H G → Exv.TyE K G (.ref d) (.type "dict") := fun s => .base (.base (.dT (s _ _ mt.1)))
    refine ⟨_, rfl, m, rfl, m1, m5, true, rfl, iteF ?_⟩
    refine ⟨_, rfl, .ref d, .ref (He.ga K "Made"), .type "dict", .ref (He.ga K "Made"), false, rfl, .own _, ty (Same.refl _), km, false, rfl, ?_⟩
    refine iteT ?_
    refine ⟨_, rfl, _, rfl, d, m, ns, R, rfl, mt, ok, nok, m1, lR, fun H1 s1 => ?_⟩
    refine ⟨true, rfl, iteF ?_⟩
    have hx1 := s1 _ _ hx
    refine ⟨_, rfl, _, rfl, x, kp K, dx, [], rfl, hx1, T.cls, T.no_period, by decide, ?_⟩
    have s2 : ∀ b o, H1 b = some o → b ≠ x → (upd H1 x (.ins (kp K) dx (putF "_period" (.int m) []))) b = some o := fun b o e ne => (upd_ne ne).trans e
    have nx : ∀ {b : Addr} {u : HO}, H1 b = some u → (∀ fs, u ≠ .ins (kp K) dx fs) → b ≠ x := fun {b u} e ne z => by
      rw [z, hx1] at e
      exact ne _ (Option.some.inj e).symm
    have mt1 := mt.same s1
    have mt2 : MT (upd H1 x (.ins (kp K) dx (putF "_period" (.int m) []))) d R := ⟨s2 _ _ mt1.1 (nx mt1.1 fun fs z => (nomatch z)), fun r hr => s2 _ _ (mt1.2 r hr) (nx (mt1.2 r hr) fun fs z => (nomatch z))⟩
    have hx2 : (upd H1 x (.ins (kp K) dx (putF "_period" (.int m) []))) x = some (.ins (kp K) dx (putF "_period" (.int m) [])) := upd_same
    have hdx2 := s2 _ _ (s1 _ _ hdx) (nx (s1 _ _ hdx) fun fs z => (nomatch z))
    have s12 : ∀ b o, H b = some o → b ≠ x → (upd H1 x (.ins (kp K) dx (putF "_period" (.int m) []))) b = some o := fun b o e ne => s2 b o (s1 _ _ e) ne
    generalize upd H1 x (.ins (kp K) dx (putF "_period" (.int m) [])) = H2 at mt2 hx2 hdx2 s12 ⊢
    refine ⟨_, rfl, .ref d, .ref (He.ga K "Made"), .type "dict", .ref (He.ga K "Made"), false, rfl, .own _, .base (.base (.dT mt2.1)), km, false, rfl, iteF ?_⟩
    refine ⟨_, rfl, d, m, ns, R, rfl, mt2, ok, nok, m5, lR, fun e S H3 s3 ne mt3 pS sS => ?_⟩
    have hx3 := s3 _ _ hx2
    refine ⟨_, rfl, x, kp K, dx, _, rfl, hx3, T.cls, T.no_partners, (show (1 : Nat) < 1000 by decide), ?_⟩
    have nx3 : ∀ {b : Addr} {u : HO}, H3 b = some u → (∀ fs, u ≠ .ins (kp K) dx fs) → b ≠ x := fun {b u} e ne z => by
      rw [z, hx3] at e
      exact ne _ (Option.some.inj e).symm
    refine k S _ (fun b o e ne => (upd_ne ne).trans (s3 _ _ (s12 b o e ne))) ⟨dx, e, upd_same, ?_, ?_, fun r hr => ?_⟩ ⟨dx, e, upd_same, ?_⟩ pS sS
    · exact (upd_ne (nx3 (s3 _ _ hdx2) fun fs z => (nomatch z))).trans (s3 _ _ hdx2)
    · exact (upd_ne (nx3 mt3.1 fun fs z => (nomatch z))).trans mt3.1
    · exact (upd_ne (nx3 (mt3.2 r hr) fun fs z => (nomatch z))).trans (mt3.2 r hr)
    · have ne2 := ne
      cases he : H e with
      | none => rfl
      | some o =>
        by_cases z : e = x
        · rw [z, hx2] at ne; cases ne
        · rw [s12 e o he z] at ne; cases ne
end
end K63

set_option Elab.async false
set_option linter.all false
set_option maxRecDepth 100000
set_option maxHeartbeats 4000000
/-! ### dict comprehensions over two fors -/
namespace Tv
open PySem L2 Lay Own PySem.Spec PyProof.Rows
abbrev dc2 (kx vx ta ia : Expr) (fa : List Expr) (tb ib : Expr) (fb : List Expr) (sc : Scope) (p : Pos) : Expr := .DictComp kx vx [⟨ta, ia, fa, 0⟩, ⟨tb, ib, fb, 0⟩] sc p
theorem turn2_out (kx vx ta ia tb ib : Expr) (fa fb : List Expr) (sc : Scope) (p : Pos) (w : Value) (D : Addr) (ev : Env) : compTurn (dc2 kx vx ta ia fa tb ib fb sc p) 0 w (.ref D) ev = (do
    standAt ia.pos
    match ← pyNext w with
    | none => pure (.done .next)
    | some y =>
      letOwnedTupleGo ta w y
      assign ta ev y
      let mut good := true
      for c in fa do
        if good then good ← isTrue c ev (eval c ev)
      if good then
        let z ← eval ib ev
        standAt ib.pos
        let z ← foldedSetIterable ib ev z
        let _ ← runOwn (.compStart (dc2 kx vx ta ia fa tb ib fb sc p) 1 (← holding [z] (pyIter z)) (.ref D) ev) ev
      again (.compLoop (dc2 kx vx ta ia fa tb ib fb sc p) 0 w (.ref D) ev)) := by rfl
theorem turn2_in (kx vx ta ia tb ib : Expr) (fa fb : List Expr) (sc : Scope) (p : Pos) (w : Value) (D : Addr) (ev : Env) : compTurn (dc2 kx vx ta ia fa tb ib fb sc p) 1 w (.ref D) ev = (do
    standAt ib.pos
    match ← pyNext w with
    | none => pure (.done .next)
    | some y =>
      letOwnedTupleGo tb w y
      assign tb ev y
      let mut good := true
      for c in fb do
        if good then good ← isTrue c ev (eval c ev)
      if good then
        (do
          let a ← eval kx ev
          let b ← holding [a] (eval vx ev)
          standAt { kx.pos with endLine := vx.pos.endLine, endCol := vx.pos.endCol }
          holding [a, b] (dictSet D a b))
      again (.compLoop (dc2 kx vx ta ia fa tb ib fb sc p) 1 w (.ref D) ev)) := by rfl
section
variable {prog : Program} {wd : World} {A : Around} {R : Result → Shared → Prop} {s : Shared} {kx vx ta ia tb ib : Expr} {fa fb : List Expr} {sc : Scope} {p : Pos} {w : Value} {D : Addr} {ev : Env}
/-- what is noted when an error leaves the block -/
abbrev Er (prog : Program) (wd : World) (A : Around) (ev : Env) (R : Result → Shared → Prop) : Value → Shared → Prop := notedBy (model prog wd) A ev fun e s' => R (.error e) s'
theorem loop2_out (fs : ∀ z, foldedSetIterable ib ev z = pure z) (I : Nat → Shared → Prop)
    (turn : ∀ n s, I n s → wpAny (model prog wd) A (pyNext w) (fun r s1 => match r with
      | none => R (.ok .next) s1
      | some y => wpAny (model prog wd) A (letOwnedTupleGo ta w y) (fun _ s2 => wpAny (model prog wd) A (assign ta ev y) (fun _ s3 =>
          wpAny (model prog wd) A (forIn fa true fun c r => if r = true then do let good ← isTrue c ev (eval c ev); pure (ForInStep.yield good) else pure (ForInStep.yield r)) (fun good s4 =>
            if good = true then wpAny (model prog wd) A (eval ib ev) (fun z s5 => wpAny (model prog wd) A (pyIter z) (fun w1 s6 =>
              codeAny (model prog wd) A (.compStart (dc2 kx vx ta ia fa tb ib fb sc p) 1 w1 (.ref D) ev) (fun r s' => match r with
                | .ok _ => ∃ m, m < n ∧ I m s'
                | .error _ => False) s6) (Er prog wd A ev R) s5) (Er prog wd A ev R) s4
            else ∃ m, m < n ∧ I m s4) (Er prog wd A ev R) s3) (Er prog wd A ev R) s2) (Er prog wd A ev R) s1) (Er prog wd A ev R) s)
    (n : Nat) (h : I n s) : codeAny (model prog wd) A (.compLoop (dc2 kx vx ta ia fa tb ib fb sc p) 0 w (.ref D) ev) R s := by
  refine codeAny_loop rfl I (fun n s hI => ?_) n h
  show wpAny _ A ((compTurn (dc2 kx vx ta ia fa tb ib fb sc p) 0 w (.ref D) ev).onRaise (fun x => do noteFrame x ev; theTreesLotGoes x)) _ _ s
  refine wpAny_noted ?_
  rw [turn2_out]
  refine wpAny_bind (wpAny_standAt (wpAny_bind (wpAny_mono (turn n s hI) (fun r s1 h1 => ?_) fun _ _ q => q)))
  cases r with
  | none => exact wpAny_pure h1
  | some y =>
    refine wpAny_bind (wpAny_mono h1 (fun _ s2 h2 => ?_) fun _ _ q => q)
    refine wpAny_bind (wpAny_mono h2 (fun _ s3 h3 => wpAny_bind (wpAny_mono h3 (fun good s4 h4 => ?_) fun _ _ q => q)) fun _ _ q => q)
    cases good with
    | false => exact wpAny_pure ⟨rfl, h4⟩
    | true =>
      refine wpAny_bind (wpAny_mono h4 (fun z s5 h5 => ?_) fun _ _ q => q)
      refine wpAny_bind (wpAny_standAt (wpAny_bind (wpAny_of_eq (fs z) (wpAny_bind (wpAny_holding (wpAny_mono h5 (fun w1 s6 h6 => ?_) fun _ _ q => q))))))
      refine wpAny_bind (wpAny_runOwn ?_)
      rw [Around.mark_none]
      refine codeAny_mono h6 fun r s' hr => ?_
      cases r with
      | error e => exact hr.elim
      | ok f => first | exact wpAny_pure ⟨rfl, hr⟩ | exact wpAny_bind (wpAny_pure (wpAny_pure ⟨rfl, hr⟩))
theorem loop2_in (I : Nat → Shared → Prop)
    (turn : ∀ n s, I n s → wpAny (model prog wd) A (pyNext w) (fun r s1 => match r with
      | none => R (.ok .next) s1
      | some y => wpAny (model prog wd) A (letOwnedTupleGo tb w y) (fun _ s2 => wpAny (model prog wd) A (assign tb ev y) (fun _ s3 =>
          wpAny (model prog wd) A (forIn fb true fun c r => if r = true then do let good ← isTrue c ev (eval c ev); pure (ForInStep.yield good) else pure (ForInStep.yield r)) (fun good s4 =>
            if good = true then wpAny (model prog wd) A (eval kx ev) (fun a s5 => wpAny (model prog wd) A (eval vx ev) (fun b s6 =>
              wpAny (model prog wd) A (dictSet D a b) (fun _ s7 => ∃ m, m < n ∧ I m s7) (Er prog wd A ev R) s6) (Er prog wd A ev R) s5) (Er prog wd A ev R) s4
            else ∃ m, m < n ∧ I m s4) (Er prog wd A ev R) s3) (Er prog wd A ev R) s2) (Er prog wd A ev R) s1) (Er prog wd A ev R) s)
    (n : Nat) (h : I n s) : codeAny (model prog wd) A (.compLoop (dc2 kx vx ta ia fa tb ib fb sc p) 1 w (.ref D) ev) R s := by
  refine codeAny_loop rfl I (fun n s hI => ?_) n h
  show wpAny _ A ((compTurn (dc2 kx vx ta ia fa tb ib fb sc p) 1 w (.ref D) ev).onRaise (fun x => do noteFrame x ev; theTreesLotGoes x)) _ _ s
  refine wpAny_noted ?_
  rw [turn2_in]
  refine wpAny_bind (wpAny_standAt (wpAny_bind (wpAny_mono (turn n s hI) (fun r s1 h1 => ?_) fun _ _ q => q)))
  cases r with
  | none => exact wpAny_pure h1
  | some y =>
    refine wpAny_bind (wpAny_mono h1 (fun _ s2 h2 => ?_) fun _ _ q => q)
    refine wpAny_bind (wpAny_mono h2 (fun _ s3 h3 => wpAny_bind (wpAny_mono h3 (fun good s4 h4 => ?_) fun _ _ q => q)) fun _ _ q => q)
    cases good with
    | false => exact wpAny_pure ⟨rfl, h4⟩
    | true => exact wpAny_bind (wpAny_bind (wpAny_mono h4 (fun a s5 h5 => wpAny_bind (wpAny_holding (wpAny_mono h5 (fun b s6 h6 => wpAny_bind (wpAny_standAt (wpAny_holding (wpAny_mono h6 (fun _ s7 h7 => wpAny_pure ⟨rfl, h7⟩) fun _ _ q => q)))) fun _ _ q => q))) fun _ _ q => q))
theorem start2_in (h0 : codeAny (model prog wd) A (.compLoop (dc2 kx vx ta ia fa tb ib fb sc p) 1 w (.ref D) ev) R s)
    (h : wpAny (model prog wd) A (pyIter w) (fun w1 s' => codeAny (model prog wd) A (.compLoop (dc2 kx vx ta ia fa tb ib fb sc p) 1 w1 (.ref D) ev) R s') (Er prog wd A ev R) s) :
    codeAny (model prog wd) A (.compStart (dc2 kx vx ta ia fa tb ib fb sc p) 1 w (.ref D) ev) R s := by
  refine codeAny_of_tree ?_
  show wpAny _ _ ((compStart (dc2 kx vx ta ia fa tb ib fb sc p) 1 w (.ref D) ev).onRaise (fun x => do noteFrame x ev; standAt theWindowsPlace)) _ _ s
  refine wpAny_notedAt ?_
  unfold compStart
  show wpAny _ _ (ask >>= _) _ _ s
  refine wpAny_bind (wpAny_askSetting (wpAny_ite ?_))
  split
  · first
      | exact wpAny_bind (wpAny_pure (wpAny_pure (And.intro rfl h0)))
      | exact wpAny_pure (And.intro rfl h0)
  · first
      | exact wpAny_bind (wpAny_rule (wpAny_bind (wpAny_standAt (wpAny_bind (wpAny_mono h (fun _ s' q => wpAny_pure (And.intro rfl q)) fun _ _ x => x)))))
      | (refine wpAny_bind (wpAny_rule ?_); show wpAny _ _ (standAt ib.pos >>= _) _ _ s; exact wpAny_bind (wpAny_standAt (wpAny_bind (wpAny_mono h (fun _ s' q => wpAny_pure (And.intro rfl q)) fun _ _ x => x))))
end
section
variable {X : Cx}
/-- behind the first clause's target and tests the second source's own loop, from which R is reached. vs: the block's names; vs1: those of the second target -/
def tDcA2 (u : HO) (wi : TI) (g : TG) (tt : TT) (wi1 : TI) (g1 : TG) (tt1 : TT) (tk tv : TE) (vs vs1 : List Nat) : TE := fun σ H Q => wi σ H fun J H1 => ∀ D, H1 D = none → ∃ W : Nat → Nat → Hp → Prop, (∃ m, W 0 m (upd H1 D u)) ∧
  ∀ i m G, W i m G → (J.stop i G ∧ Q (.ref D) G) ∨ (J.go i G ∧ ∃ R : Hp → Prop, (∀ G', R G' → ∃ m', m' < m ∧ W (i + 1) m' G') ∧ ∀ x G', J.yld i G x G' →
    g x (wipe σ vs) G' fun σ1 H1 => wipe σ1 vs = wipe σ vs ∧ tt σ1 H1 fun b H2 => if b = true then wi1 σ1 H2 fun J1 H3 => ∃ W1 : Nat → Nat → Hp → Prop, (∃ c, W1 0 c H3) ∧
      ∀ j c G2, W1 j c G2 → (J1.stop j G2 ∧ R G2) ∨ (J1.go j G2 ∧ ∃ R1 : Hp → Prop, (∀ G', R1 G' → ∃ c', c' < c ∧ W1 (j + 1) c' G') ∧ ∀ x1 G', J1.yld j G2 x1 G' → turnA g1 tt1 tk tv vs1 σ1 D x1 G' R1)
    else R H2)
theorem pe_dcA2 {u : HO} {kx vx tg iter tg1 iter1 : Expr} {ifs ifs1 : List Expr} {scope : Scope} {own : List (Str × Nat)} {vs1 : List Nat} {pos : Pos} {wi wi1 : TI} {g g1 : TG} {tt tt1 : TT} {tk tv : TE} (hu : X.A.units + 1 < cLine)
    (new : ∀ (H : Hp) (h : Heap), sysModules < h.objs.size → ObjOk X.prog X.w H (h.push { cls := .type "dict", data := .dict #[] }) h.objs.size u)
    (hc : X.calm = true) (hN : X.N.Nodup) (hi : PI X tg iter wi) (ok : BlkOk X.N X.env.scope scope own) (hin : ∀ i ∈ vs1, i ∈ own.map (·.2))
    (hi1 : ∀ (s : Shared) (H : Hp) (C : Addr) (cl : List (Str × Addr)) (fp : List Addr), PI (X.blk s H scope (compEnvC scope cl C X.env) fp) tg1 iter1 wi1) (hg1 : ∀ (s : Shared) (H : Hp) (C : Addr) (cl : List (Str × Addr)) (fp : List Addr), PG (X.blk s H scope (compEnvC scope cl C X.env) fp) tg1 g1) (ht1 : ∀ (s : Shared) (H : Hp) (C : Addr) (cl : List (Str × Addr)) (fp : List Addr), PTs (X.blk s H scope (compEnvC scope cl C X.env) fp) ifs1 tt1)
    (hg : ∀ (s : Shared) (H : Hp) (C : Addr) (cl : List (Str × Addr)) (fp : List Addr), PG (X.blk s H scope (compEnvC scope cl C X.env) fp) tg g) (ht : ∀ (s : Shared) (H : Hp) (C : Addr) (cl : List (Str × Addr)) (fp : List Addr), PTs (X.blk s H scope (compEnvC scope cl C X.env) fp) ifs tt)
    (hk : ∀ (s : Shared) (H : Hp) (C : Addr) (cl : List (Str × Addr)) (fp : List Addr), PE (X.blk s H scope (compEnvC scope cl C X.env) fp) kx tk) (hv : ∀ (s : Shared) (H : Hp) (C : Addr) (cl : List (Str × Addr)) (fp : List Addr), PE (X.blk s H scope (compEnvC scope cl C X.env) fp) vx tv)
    (fs : ∀ x, foldedSetIterable iter X.env x = pure x := by intro _; rfl) (fs1 : ∀ ev x, foldedSetIterable iter1 ev x = pure x := by intro _ _; rfl) : PE X (dc2 kx vx tg iter ifs tg1 iter1 ifs1 scope pos) (tDcA2 u wi g tt wi1 g1 tt1 tk tv (own.map (·.2)) vs1) := by
  refine ⟨fun pins s σ H Q I h => ?_⟩
  show wpAny _ _ (eval (.DictComp kx vx [⟨tg, iter, ifs, 0⟩, ⟨tg1, iter1, ifs1, 0⟩] scope pos) X.env) _ _ s
  rw [arm_eval_DictComp]
  have fr : ∀ y ∈ scope.names, y.2 = .free → ∃ c, X.env.cells.lookup y.1 = some c := fun y hy e => (ok.free y hy e).elim (fun z => I.ok.has _ (.inl z)) fun z => I.ok.has _ (.inr z)
  refine wpAny_comprehension_free (use := none) rfl fs (closure_ok fr) ok.kind (fun y hy e => by rw [ok.uniq y hy, e]) (thn (hi.run pins s σ H _ I h) fun xv sa ha => thn ha fun iv sb hb => ?_)
  obtain ⟨it, fp, tn, J, Hb, rfl, Ib, T, stb, fb, q⟩ := hb
  refine wpAny_newObj_type (newEnv_comp ?_)
  obtain ⟨D, eD⟩ : ∃ D, D = sb.heap.objs.size := ⟨_, rfl⟩
  rw [← eD]
  obtain ⟨W, ⟨m0, w0⟩, turn⟩ := q D (by rw [eD]; exact Ib.hok.fresh (Nat.le_refl _))
  obtain ⟨hp, ehp⟩ : ∃ hp, hp = sb.heap.push { cls := .type "dict", data := .dict #[] } := ⟨_, rfl⟩
  rw [← ehp]
  have keep : ∀ b o, sb.heap.get? b = some o → hp.get? b = some o := fun b o e => by rw [ehp]; exact Heap.get?_push_of_some _ e
  have Ic : Inv X pins σ (upd Hb D u) { sb with heap := hp } := Ib.laid (t' := sb.toks) keep (by rw [eD]; exact Nat.le_refl _) (by rw [ehp, eD]; exact new _ _ Ib.big)
  have below : ∀ b ∈ fp, b < sb.heap.objs.size := fun b hb => by
    obtain ⟨o, e, _⟩ := T.obj _ _ stb b hb
    exact Heap.lt_size e
  have fc : ∀ b ∈ fp, FpOk X pins (upd Hb D u) b ∧ b < hp.objs.size := fun b hb => by
    have lt := below b hb
    refine ⟨⟨(upd_ne (by rw [eD]; exact Nat.ne_of_lt lt)).trans (fb b hb).1, (fb b hb).2⟩, ?_⟩
    rw [ehp, Heap.size_push]
    exact Nat.lt_succ_of_lt lt
  have stc : tn 0 hp := T.keep _ _ _ stb fun b _ o e => keep b o e
  generalize hsc : ({ sb with heap := hp } : Shared) = sc at Ic
  have ehc : sc.heap = hp := by rw [← hsc]
  rw [← ehc] at fc stc
  have Id := block_start Ic ok hN fc
  generalize hHc : upd Hb D u = Hc at Ic Id w0 fc
  have nfp : ∀ b ∈ fp, Hc b = none := fun b hb => (fc b hb).1.1
  show codeAny _ _ (.compStart (dc2 kx vx tg iter ifs tg1 iter1 ifs1 scope pos) 0 (.ref it) (.ref D) (compEnvC scope (cellsFrom (sc.heap.objs.size + 1) scope.names (cloFrom X.env.cells scope.names [])) sc.heap.objs.size X.env)) (compPost (model X.prog X.w) X.A X.xe none (EP X pins σ Q) (.ref D) sc.heap.objs.size) { sc with heap := pushCells (sc.heap.push { cls := .type "dict", data := .dict #[] }) scope.names }
  have pg := hg sc Hc sc.heap.objs.size (cellsFrom (sc.heap.objs.size + 1) scope.names (cloFrom X.env.cells scope.names [])) fp
  have pt := ht sc Hc sc.heap.objs.size (cellsFrom (sc.heap.objs.size + 1) scope.names (cloFrom X.env.cells scope.names [])) fp
  have pi1 := hi1 sc Hc sc.heap.objs.size (cellsFrom (sc.heap.objs.size + 1) scope.names (cloFrom X.env.cells scope.names [])) fp
  have pg1 := hg1 sc Hc sc.heap.objs.size (cellsFrom (sc.heap.objs.size + 1) scope.names (cloFrom X.env.cells scope.names [])) fp
  have pt1 := ht1 sc Hc sc.heap.objs.size (cellsFrom (sc.heap.objs.size + 1) scope.names (cloFrom X.env.cells scope.names [])) fp
  have pk := hk sc Hc sc.heap.objs.size (cellsFrom (sc.heap.objs.size + 1) scope.names (cloFrom X.env.cells scope.names [])) fp
  have pv := hv sc Hc sc.heap.objs.size (cellsFrom (sc.heap.objs.size + 1) scope.names (cloFrom X.env.cells scope.names [])) fp
  generalize hce : compEnvC scope (cellsFrom (sc.heap.objs.size + 1) scope.names (cloFrom X.env.cells scope.names [])) sc.heap.objs.size X.env = ce at Id pg pt pi1 pg1 pt1 pk pv ⊢
  have cl : ce.locals = sc.heap.objs.size := by rw [← hce]; rfl
  have std : tn 0 (pushCells (sc.heap.push { cls := .type "dict", data := .dict #[] }) scope.names) := T.keep _ _ _ stc fun b _ o e => pushCells_keeps _ _ _ _ (Heap.get?_push_of_some _ e)
  generalize hsd : ({ sc with heap := pushCells (sc.heap.push { cls := .type "dict", data := .dict #[] }) scope.names } : Shared) = sd at Id ⊢
  have std : tn 0 sd.heap := by rw [← hsd]; exact std
  have foot : ∀ {σ' : L2.St} {G : Hp} {s' : Shared}, Inv (X.blk sc Hc scope ce fp) [] σ' G s' → (∀ b ∈ fp, G b = none) → ∀ b ∈ fp, FpOk (X.blk sc Hc scope ce fp) [] G b := fun {σ' G s'} J' hn b hb =>
    ⟨hn b hb, (J'.ok.exf b hb).1, J'.ok.exfs b hb, .inl hb, fun x c e => (J'.ok.exf b hb).2 x c e, fun p hp => absurd (show p ∈ ([] : List (Addr × Obj)) ++ [] from hp) (by simp)⟩
  have loop : codeAny (model X.prog X.w) X.A (.compLoop (dc2 kx vx tg iter ifs tg1 iter1 ifs1 scope pos) 0 (.ref it) (.ref D) ce) (compPost (model X.prog X.w) X.A X.xe none (EP X pins σ Q) (.ref D) sc.heap.objs.size) sd := by
    refine loop2_out (fs1 ce) (fun n s' => ∃ i G, Inv (X.blk sc Hc scope ce fp) [] (wipe σ (own.map (·.2))) G s' ∧ tn i s'.heap ∧ (∀ b ∈ fp, G b = none) ∧ W i n G) (fun n se => ?_) m0 ⟨0, Hc, Id, std, nfp, w0⟩
    rintro ⟨i, G, Ie, ste, ne, we⟩
    rcases turn i n G we with ⟨stop, fin⟩ | ⟨go, R, hR, step⟩
    · refine thnF (T.done (X.blk sc Hc scope ce fp) rfl rfl rfl hc i [] se _ G (fun _ _ => False) Ie (foot Ie ne) ste stop) fun r sf ⟨er, If⟩ => ?_
      subst er
      have Ig : Inv X pins σ G sf := Ic.call' (ch := fp) If.os If.base If.hok If.bare fun b hb => ⟨(fc b hb).1.2.2.2.1, (fc b hb).1.2.1, (fc b hb).1.2.2.2.2.1, (fc b hb).1.2.2.2.2.2⟩
      have nG : G sc.heap.objs.size = none := by rw [← cl]; exact If.free
      obtain ⟨m, hn, _⟩ := If.loc
      have hn' : sf.heap.Ns ce.locals m := hn
      rw [cl] at hn'
      refine ⟨m, hn', fun hh sb' => ?_⟩
      obtain ⟨f0, f1, f2, f3, f4, f5⟩ := Ic.fpOk (Nat.le_refl _) nG
      exact ⟨.ref D, G, Ig.turned (t' := sf.toks) (fun b o hb e => (sb'.2 b hb).trans e) f0 f1 f3 f4 f5, rfl, fin⟩
    · refine thnF (T.item (X.blk sc Hc scope ce fp) rfl rfl rfl hc i [] se _ G (fun _ _ => False) Ie (foot Ie ne) ste go) fun r sf ⟨v, er, hf⟩ => ?_
      subst er
      refine thnF hf fun _ sg ⟨x, Gg, Ig, rg, yg, stg, ng⟩ => ?_
      have Ip := Ig.pinned (foot Ig ng) (T.obj _ _ stg)
      refine thnF (pg.run _ sg _ Gg x v _ Ip rg (step x Gg yg)) fun _ sh ⟨σh, Gh, Ih, ew, qh⟩ => ?_
      refine thnF (pt.run _ sh σh Gh _ Ih qh) fun b si ⟨Gi, Ii, qi⟩ => ?_
      have back : ∀ {σ' : L2.St} {s' : Shared} {G' : Hp}, Inv (X.blk sc Hc scope ce fp) ([] ++ pinsAt fp sg.heap) σ' G' s' → (wipe σ (own.map (·.2))).length = σ'.length → (∀ (j : Nat) v, (wipe σ (own.map (·.2)))[j]? = some (some v) → σ'[j]? = some (some v)) → R G' →
          ∃ m, m < n ∧ ∃ i G', Inv (X.blk sc Hc scope ce fp) [] (wipe σ (own.map (·.2))) G' s' ∧ tn i s'.heap ∧ (∀ b ∈ fp, G' b = none) ∧ W i m G' := fun {σ' s' G'} J' ln kp r => by
        obtain ⟨m', lt, w'⟩ := hR G' r
        have stays : ∀ b ∈ fp, ∀ o, sg.heap.get? b = some o → s'.heap.get? b = some o ∧ G' b = none := fun b hb o e =>
          let z := J'.pin (b, o) (List.mem_append_right _ (List.mem_append_right _ (mem_pinsAt hb e)))
          ⟨z.1, z.2.1⟩
        refine ⟨m', lt, i + 1, G', (J'.unpinned (pins := [])).weak ln kp, T.keep _ _ _ stg fun b hb o e => (stays b hb o e).1, fun b hb => ?_, w'⟩
        obtain ⟨o, e, _⟩ := T.obj _ _ stg b hb
        exact (stays b hb o e).2
      have ln8 : (wipe σ (own.map (·.2))).length = σh.length := by rw [← ew, wipe_length]
      have kp8 : ∀ (j : Nat) v, (wipe σ (own.map (·.2)))[j]? = some (some v) → σh[j]? = some (some v) := fun j v e => by
        rw [← ew] at e
        exact (wipe_some e).1
      have kp9 : ∀ (j : Nat) v, (wipe σ (own.map (·.2)))[j]? = some (some v) → (wipe σh vs1)[j]? = some (some v) := fun j v e => by
        rw [← ew] at e
        obtain ⟨e1, e2⟩ := wipe_some e
        rw [wipe_out fun z => e2 (hin j z)]
        exact e1
      cases b with
      | false =>
        simp only [Bool.false_eq_true, if_false] at qi ⊢
        exact back Ii ln8 kp8 qi
      | true =>
        simp only [if_true] at qi ⊢
        refine thnF (pi1.run _ si σh Gi _ Ii qi) fun xw sj hx => thnF hx fun iw sk hk1 => ?_
        obtain ⟨it1, fp1, tn1, J1, Gk, rfl, Ik, T1, stk, fk, W1, ⟨m1, w1⟩, turn1⟩ := hk1
        have foot1 : ∀ {G' : Hp}, (∀ b ∈ fp1, G' b = none) → ∀ b ∈ fp1, FpOk (X.blk sc Hc scope ce fp) ([] ++ pinsAt fp sg.heap) G' b := fun hn b hb => ⟨hn b hb, (fk b hb).2⟩
        have loop1 : codeAny (model X.prog X.w) X.A (.compLoop (dc2 kx vx tg iter ifs tg1 iter1 ifs1 scope pos) 1 (.ref it1) (.ref D) ce)
            (fun r s' => match r with
              | .ok _ => ∃ m, m < n ∧ ∃ i G', Inv (X.blk sc Hc scope ce fp) [] (wipe σ (own.map (·.2))) G' s' ∧ tn i s'.heap ∧ (∀ b ∈ fp, G' b = none) ∧ W i m G'
              | .error _ => False) sk := by
          refine loop2_in (fun c s' => ∃ j G', Inv (X.blk sc Hc scope ce fp) ([] ++ pinsAt fp sg.heap) (wipe σh vs1) G' s' ∧ tn1 j s'.heap ∧ (∀ b ∈ fp1, G' b = none) ∧ W1 j c G') (fun c sl => ?_) m1 ⟨0, Gk, Ik.weak (wipe_length _ _) (fun j v e => (wipe_some e).1), stk, fun b hb => (fk b hb).1, w1⟩
          rintro ⟨j, Gl, Il, stl, nl, wl⟩
          rcases turn1 j c Gl wl with ⟨stop1, fin1⟩ | ⟨go1, R1, hR1, step1⟩
          · refine thnF (T1.done (X.blk sc Hc scope ce fp) rfl rfl rfl hc j _ sl (wipe σh vs1) Gl (fun _ _ => False) Il (foot1 nl) stl stop1) fun r sm ⟨er, Im⟩ => ?_
            subst er
            exact back Im (ln8.trans (wipe_length σh vs1).symm) kp9 fin1
          · refine thnF (T1.item (X.blk sc Hc scope ce fp) rfl rfl rfl hc j _ sl (wipe σh vs1) Gl (fun _ _ => False) Il (foot1 nl) stl go1) fun r sm ⟨v1, er, hm⟩ => ?_
            subst er
            refine thnF hm fun _ so ⟨x1, Go, Io, ro, yo, sto, no⟩ => ?_
            have Iq := Io.pinned (foot1 no) (T1.obj _ _ sto)
            refine thnF (pg1.run _ so (wipe σh vs1) Go x1 v1 _ Iq ro (step1 x1 Go yo)) fun _ sp ⟨σp, Gp, Ip1, ep, qp⟩ => ?_
            refine thnF (pt1.run _ sp σp Gp _ Ip1 qp) fun b1 sq ⟨Gq, Iq1, qq⟩ => ?_
            have back1 : ∀ {s' : Shared} {G' : Hp}, Inv (X.blk sc Hc scope ce fp) (([] ++ pinsAt fp sg.heap) ++ pinsAt fp1 so.heap) σp G' s' → R1 G' → ∃ m, m < c ∧ ∃ j G', Inv (X.blk sc Hc scope ce fp) ([] ++ pinsAt fp sg.heap) (wipe σh vs1) G' s' ∧ tn1 j s'.heap ∧ (∀ b ∈ fp1, G' b = none) ∧ W1 j m G' := fun {s' G'} J' r => by
              obtain ⟨m', lt, w'⟩ := hR1 G' r
              have stays : ∀ b ∈ fp1, ∀ o, so.heap.get? b = some o → s'.heap.get? b = some o ∧ G' b = none := fun b hb o e =>
                let z := J'.pin (b, o) (List.mem_append_right _ (List.mem_append_right _ (mem_pinsAt hb e)))
                ⟨z.1, z.2.1⟩
              refine ⟨m', lt, j + 1, G', J'.unpinned.weak (by rw [← ep, wipe_length]) (fun j v e => ?_), T1.keep _ _ _ sto fun b hb o e => (stays b hb o e).1, fun b hb => ?_, w'⟩
              · rw [← ep] at e
                exact (wipe_some e).1
              · obtain ⟨o, e, _⟩ := T1.obj _ _ sto b hb
                exact (stays b hb o e).2
            cases b1 with
            | false =>
              simp only [Bool.false_eq_true, if_false] at qq ⊢
              exact back1 Iq1 qq
            | true =>
              simp only [if_true] at qq ⊢
              refine thnF (pk.run _ sq σp Gq _ Iq1 qq) fun z st ⟨y, Gt, It, rt, qt⟩ => ?_
              refine thnF (pv.run _ st σp Gt _ It qt) fun z2 su ⟨y2, Gu, Iu, ru, G5, put, r5⟩ => ?_
              exact store_any (X := X.blk sc Hc scope ce fp) hu Iu put rt ru fun sv Iv => back1 Iv r5
        exact start2_in loop1 (T1.self X.A 0 _ _ _ stk loop1)
  exact codeAny_compStart_dict loop (T.self X.A 0 _ _ _ std loop)
end
/-- over two walks, by invariants -/
theorem dcA2_it {J : L2.It} {n : Nat} {G : Hp → Prop} {Y : Nat → Hp → V → Hp → Prop} (wk : Walk J n G Y) {u : HO} {g : TG} {tt : TT} {wi1 : TI} {g1 : TG} {tt1 : TT} {tk tv : TE} {vs vs1 : List Nat} {σ : L2.St} {H1 : Hp} {D : Addr} {Qd : Hp → Prop} (Pv : Nat → Hp → Prop) (h0 : Pv 0 (upd H1 D u)) (hG : ∀ i H, i ≤ n → Pv i H → G H)
    (hs : ∀ i x H H', i < n → Pv i H → Y i H x H' → g x (wipe σ vs) H' fun σ1 H1 => wipe σ1 vs = wipe σ vs ∧ tt σ1 H1 fun b H2 => if b = true then wi1 σ1 H2 fun J1 H3 => ∃ W1 : Nat → Nat → Hp → Prop, (∃ c, W1 0 c H3) ∧
      ∀ j c G2, W1 j c G2 → (J1.stop j G2 ∧ Pv (i + 1) G2) ∨ (J1.go j G2 ∧ ∃ R1 : Hp → Prop, (∀ G', R1 G' → ∃ c', c' < c ∧ W1 (j + 1) c' G') ∧ ∀ x1 G', J1.yld j G2 x1 G' → turnA g1 tt1 tk tv vs1 σ1 D x1 G' R1)
    else Pv (i + 1) H2) (hd : ∀ H, Pv n H → Qd H) :
    ∃ W : Nat → Nat → Hp → Prop, (∃ m, W 0 m (upd H1 D u)) ∧ ∀ i m G, W i m G → (J.stop i G ∧ Qd G) ∨ (J.go i G ∧ ∃ R : Hp → Prop, (∀ G', R G' → ∃ m', m' < m ∧ W (i + 1) m' G') ∧ ∀ x G', J.yld i G x G' →
    g x (wipe σ vs) G' fun σ1 H1 => wipe σ1 vs = wipe σ vs ∧ tt σ1 H1 fun b H2 => if b = true then wi1 σ1 H2 fun J1 H3 => ∃ W1 : Nat → Nat → Hp → Prop, (∃ c, W1 0 c H3) ∧
      ∀ j c G2, W1 j c G2 → (J1.stop j G2 ∧ R G2) ∨ (J1.go j G2 ∧ ∃ R1 : Hp → Prop, (∀ G', R1 G' → ∃ c', c' < c ∧ W1 (j + 1) c' G') ∧ ∀ x1 G', J1.yld j G2 x1 G' → turnA g1 tt1 tk tv vs1 σ1 D x1 G' R1)
    else R H2) := by
  refine ⟨fun i m H => m + i = n ∧ Pv i H, ⟨n, rfl, h0⟩, fun i m H => ?_⟩
  rintro ⟨e, p⟩
  have q := hG i H (by omega) p
  cases m with
  | zero =>
    obtain rfl : i = n := by omega
    exact .inl ⟨wk.stops H q, hd H p⟩
  | succ m =>
    refine .inr ⟨wk.goes i H (by omega) q, Pv (i + 1), fun G' p' => ⟨m, Nat.lt_succ_self m, by omega, p'⟩, fun x G' y => hs i x H G' (by omega) p (wk.yields i H x G' (by omega) q y)⟩
/-- the inner walk -/
theorem dcA_in {J : L2.It} {n : Nat} {G : Hp → Prop} {Y : Nat → Hp → V → Hp → Prop} (wk : Walk J n G Y) {g : TG} {tt : TT} {tk tv : TE} {vs : List Nat} {σ : L2.St} {H1 : Hp} {D : Addr} {Qd : Hp → Prop} (Pv : Nat → Hp → Prop) (h0 : Pv 0 H1) (hG : ∀ i H, i ≤ n → Pv i H → G H)
    (hs : ∀ i x H H', i < n → Pv i H → Y i H x H' → turnA g tt tk tv vs σ D x H' (Pv (i + 1))) (hd : ∀ H, Pv n H → Qd H) :
    ∃ W : Nat → Nat → Hp → Prop, (∃ m, W 0 m H1) ∧ ∀ i m H, W i m H → (J.stop i H ∧ Qd H) ∨ (J.go i H ∧ ∃ R : Hp → Prop, (∀ G', R G' → ∃ m', m' < m ∧ W (i + 1) m' G') ∧ ∀ x G', J.yld i H x G' → turnA g tt tk tv vs σ D x G' R) := by
  refine ⟨fun i m H => m + i = n ∧ Pv i H, ⟨n, rfl, h0⟩, fun i m H => ?_⟩
  rintro ⟨e, p⟩
  have q := hG i H (by omega) p
  cases m with
  | zero =>
    obtain rfl : i = n := by omega
    exact .inl ⟨wk.stops H q, hd H p⟩
  | succ m =>
    refine .inr ⟨wk.goes i H (by omega) q, Pv (i + 1), fun G' p' => ⟨m, Nat.lt_succ_self m, by omega, p'⟩, fun x G' y => hs i x H G' (by omega) p (wk.yields i H x G' (by omega) q y)⟩
end Tv

set_option Elab.async false
set_option linter.all false
set_option maxRecDepth 100000
set_option maxHeartbeats 4000000
namespace Tv
open PySem L2 Lay Own PySem.Spec PyProof.Rows
/-! ### for (..), v in d.items(), d a dict with tuples for keys -/
section
variable {X : Cx} {pins : List (Addr × Obj)} {σ : L2.St} {H : Hp} {s : Shared} {d : Addr} {o : Obj}
theorem frzI {kvs : List (List Key × V)} (I : Inv X pins σ H s) (h : H d = some (.frz o (.dT kvs))) :
    (d == sysModules) = false ∧ ∃ (es : Array DictEntry) (ep : Nat), s.heap.DictRaw d es ep ∧ o.data = .dict es ep ∧ es.size = kvs.length ∧
      ∀ (i : Nat) (k : List Key) (v : V), kvs[i]? = some (k, v) → ∃ (en : DictEntry) (q : Addr), es[i]? = some en ∧ en.key = .ref q ∧ H q = some (.tup (k.map kV)) ∧ RelV v en.val := by
  obtain ⟨hd, z, hs, xs, pr, o', es, ep, ho, hx, hdt, he, _⟩ := I.hok d _ h
  have ho' := ho
  rw [hd] at ho
  cases ho
  refine ⟨hs, es, ep, ⟨o, hd, hx, hdt⟩, hdt, ?_, fun i k v e => ?_⟩
  · have l1 : es.size = xs.length := size_of_entries he
    have l2 : kvs.length = xs.length := Paired.length pr
    omega
  · obtain ⟨b, hb, e1, e2, e3⟩ := paired_get pr e
    have q := entry_at he i
    rw [hb] at q
    exact ⟨_, b.2.1, q, rfl, e2, e3⟩
end
/-- the entries, each in a new pair -/
def ItiT (d : Addr) (o : Obj) (kvs : List (List Key × V)) : L2.It :=
  ⟨fun i H => H d = some (.frz o (.dT kvs)) ∧ i < kvs.length, fun i H x H' => ∃ T q k v, kvs[i]? = some (k, v) ∧ x = .ref T ∧ H T = none ∧ H' = upd H T (.tup [.ref q, v]) ∧ H q = some (.tup (k.map kV)), fun i H => H d = some (.frz o (.dT kvs)) ∧ kvs.length ≤ i⟩
section
variable {P : Program} {w : World} {K : PySem.W.Frag} {d : Addr} {o : Obj} {es : Array DictEntry} {ep : Nat}
theorem turn_itemsT {kvs : List (List Key × V)} {elts : List Expr} {kk : Nat} {tpos : Pos} (it : Addr) (hod : o.data = .dict es ep) :
    Turn P w K (.Tuple elts kk tpos) (ItiT d o kvs) [it] it (fun i h => ∃ a b, IsItemIter h it d i kvs.length ep a b) where
  mem := by simp
  obj := fun i h st b hb => by
    have e : b = it := by simpa using hb
    subst e
    obtain ⟨_, _, e⟩ := st
    exact ⟨_, e, fun v z => nomatch z⟩
  keep := fun i h h' st k => let ⟨u, v, e⟩ := st; ⟨u, v, k it (by simp) _ e⟩
  item := by
    intro X hP hw hK hc i pins s σ H E I hf st hg
    subst hP hw hK
    obtain ⟨hd, hi⟩ := hg
    obtain ⟨hs, es', ep', hm, hdt, hsz, ent⟩ := frzI I hd
    obtain ⟨rfl, rfl⟩ := dict_ep hod hdt
    obtain ⟨⟨k, v⟩, hkv⟩ : ∃ p, kvs[i]? = some p := ⟨kvs[i], List.getElem?_eq_getElem hi⟩
    obtain ⟨en, q, hen, hkey, hq, ru⟩ := ent i k v hkv
    obtain ⟨hlt, hen'⟩ := Array.getElem?_eq_some_iff.mp hen
    obtain ⟨u1, u2, he⟩ := st
    rw [← hsz] at he
    have hin : it < s.heap.objs.size := Heap.lt_size he
    refine wpAny_pyNext_items_item_raw he hm hlt fun h' ho hT hz hk => ?_
    rw [hen'] at ho hT
    refine ⟨_, rfl, wpAny_letOwnedTupleGo_items (s := { s with heap := h' }) ho fun h2 he2 sb => ?_⟩
    have hT2 : h2.get? s.heap.objs.size = some { cls := .type "tuple", data := .seq #[en.key, en.val] } := (sb.2 _ (Nat.ne_of_gt hin)).trans hT
    have new : ObjOk X.prog X.w (upd H s.heap.objs.size (.tup [.ref q, v])) h2 s.heap.objs.size (.tup [.ref q, v]) :=
      ⟨by show (2 : Nat) ≤ sizeLine; decide +kernel, [en.key, en.val], .cons (show RelV (.ref q) en.key from hkey) (.cons ru .nil), ⟨_, hT2, rfl, _, rfl⟩⟩
    have I1 : Inv X pins σ (upd H s.heap.objs.size (.tup [.ref q, v])) { s with heap := h2 } :=
      I.turnedNew (t' := s.toks) (ch := [it]) (fun b ob hb e => (sb.2 b (by simpa using hb)).trans (hk b ob (by simpa using hb) e)) hf (Nat.le_refl _) new
    refine ⟨.ref s.heap.objs.size, _, I1, rfl, ⟨_, q, k, v, hkv, rfl, I.hok.fresh (Nat.le_refl _), rfl, hq⟩, ⟨en.key, en.val, ?_⟩, fun b hb => ?_⟩
    · rw [← hsz]; exact he2
    · have e : b = it := by simpa using hb
      rw [e, upd_ne (Nat.ne_of_lt hin)]
      exact (hf it (by simp)).1
  done := by
    intro X hP hw hK hc i pins s σ H E I hf st hg
    subst hP hw hK
    obtain ⟨hd, hi⟩ := hg
    obtain ⟨f0, f1, f2, f3, f4, f5⟩ := hf it (by simp)
    obtain ⟨hs, es', ep', hm, hdt, hsz, ent⟩ := frzI I hd
    obtain ⟨rfl, rfl⟩ := dict_ep hod hdt
    obtain ⟨u1, u2, he⟩ := st
    rw [← hsz] at he
    exact wpAny_pyNext_items_end_raw (I.ok.hd hc) he hm (by omega) fun h' eb => ⟨rfl, I.turned (t' := s.toks) (fun b ob hb e => eb b ob hb e) f0 f1 f3 f4 f5⟩
  self := fun A i s Q E st h => by
    obtain ⟨_, _, he⟩ := st
    exact wpAny_pyIter_itemiter he h
end
def iItemsT (td : TE) : TI := fun σ H R => td σ H fun x H1 => ∃ d o kvs, x = .ref d ∧ H1 d = some (.frz o (.dT kvs)) ∧ R (ItiT d o kvs) H1
section
variable {X : Cx} {e : Expr} {td : TE} {apos cpos : Pos}
theorem pi_itemsT {elts : List Expr} {kk : Nat} {tpos : Pos} (he : PE X e td) (hbase : attributeBase e "items" X.env (eval e X.env) = eval e X.env := by rfl) (hline : (apos.endLine == cpos.line) = true := by rfl) : PI X (.Tuple elts kk tpos) (.Call (.Attribute e "items" apos) [] [] cpos) (iItemsT td) := by
  refine ⟨fun pins s σ H R I h => ?_⟩
  refine wpAny_Call_method (T := "dict") (id := "dict.items") hbase rfl hline PySem.F.plainAttrs_dict PySem.F.slot_dict_items PySem.F.type_dict_items (thn (he.run pins s σ H _ I h) fun u s1 ⟨x, H1, I1, rx, d, o, kvs, ex, hd, q⟩ => ?_)
  subst ex
  obtain rfl : u = Value.ref d := rx
  obtain ⟨hs, es, ep, hm, hdt, hsz, ent⟩ := frzI I1 hd
  obtain ⟨od, e1, e2, e3⟩ := id hm
  refine ⟨⟨od, e1, e2.1⟩, fun b e => (by cases e; exact ⟨od, e1, e2.2.1⟩), ?_⟩
  have I2 : Inv X pins σ H1 { s1 with heap := s1.heap.push { cls := .type "dict_items", data := .fields #[.ref d] } } := I1.kept (t' := s1.toks) fun b ob q => Heap.get?_push_of_some _ q
  have hm2 : (s1.heap.push { cls := .type "dict_items", data := .fields #[.ref d] }).DictRaw d es ep := ⟨od, Heap.get?_push_of_some _ e1, e2, e3⟩
  have fin : wpAny (model X.prog X.w) X.A (pyIter (.ref s1.heap.objs.size)) (PIE X pins σ (.Tuple elts kk tpos) R) X.xe { s1 with heap := s1.heap.push { cls := .type "dict_items", data := .fields #[.ref d] } } := by
    refine wpAny_pyIter_items_raw (d := d) ⟨_, Heap.get?_push_size _ rfl, rfl, rfl⟩ hm2 (pi_one (tk := s1.toks) I2 _ (turn_itemsT _ hdt) ⟨.none, .none, ?_⟩ q)
    rw [← hsz]
    exact Heap.get?_push_size _ rfl
  show wpAny _ _ (callWith cpos (.builtin "dict.items") [.ref d] [] []) _ X.xe s1
  exact method_meetsIn PySem.F.slot_dict_items PySem.F.entry_dict_items rfl (PySem.evalArgs_none ⟨rfl, ⟨od, e1, e2.1⟩, PySem.F.args_dict_items_1 _, _, meets_dict_items_raw d hs, ⟨⟨es, ep, hm⟩, fin⟩⟩)
end
theorem walk_itemsT {d : Addr} {o : Obj} {kvs : List (List Key × V)} : Walk (ItiT d o kvs) kvs.length (fun H => H d = some (.frz o (.dT kvs))) (fun i H x H' => ∃ T q k v, kvs[i]? = some (k, v) ∧ x = .ref T ∧ H T = none ∧ H' = upd H T (.tup [.ref q, v]) ∧ H q = some (.tup (k.map kV))) :=
  ⟨fun _ _ hi q => ⟨q, hi⟩, fun _ q => ⟨q, Nat.le_refl _⟩, fun _ _ _ _ _ _ y => y⟩
end Tv

set_option Elab.async false
set_option linter.all false
set_option maxRecDepth 100000
set_option maxHeartbeats 4000000
/-! ### xs[::-1] -/
namespace Tv
open PySem L2 Lay Own PySem.Spec PyProof.Rows
section
variable {X : Cx} {e st : Expr} {te ts : TE} {p2 pos : Pos}
def tBack (K : PySem.W.Frag) (te ts : TE) : TE := fun σ H Q => te σ H fun x H1 => ts σ H1 fun y H2 => ∃ a xs, x = .ref a ∧ y = .int (-1) ∧ SqL K H2 a xs ∧ ∀ d, H2 d = none → Q (.ref d) (upd H2 d (.lst xs.reverse))
theorem vals_back {xs : List V} {us : List Value} (r : Vals xs us) : Vals xs.reverse us.reverse := by
  induction r with
  | nil => exact .nil
  | cons h _ ih =>
    rw [List.reverse_cons, List.reverse_cons]
    exact Vals.append ih (.cons h .nil)
theorem pe_back (he : PE X e te) (hst : PE X st ts) : PE X (.Subscript e (.Slice none none (some st) p2) pos) (tBack X.K te ts) := by
  refine ⟨fun pins s σ H Q I h => ?_⟩
  refine Subscript_ (thn (he.run pins s σ H _ I h) fun v s1 ⟨x, H1, I1, r1, q1⟩ => ?_)
  refine wpAny_Slice ?_
  rw [evalPart_none]
  refine wpAny_pure (wpAny_pure ?_)
  rw [evalPart_some]
  refine thn (hst.run pins s1 σ H1 _ I1 q1) fun w s2 ⟨y, H2, I2, r2, a, xs, ex, ey, hx, q⟩ => ?_
  subst ex ey
  obtain ⟨t, rfl⟩ := r2
  cases (show v = Value.ref a from r1)
  have I3 : Inv X pins σ H2 { s2 with heap := s2.heap.push { cls := .type "slice", data := .fields #[.none, .none, .int (-1) t] } } := I2.kept (t' := s2.toks) fun b ob q => Heap.get?_push_of_some _ q
  obtain ⟨its, rv, ht, hz⟩ := I3.list hx
  have hlen := rv.length
  refine tail_any (ops := [.ref a, .ref s2.heap.objs.size]) (T := "list") ht.isList.typeIs slot_list_getitem.lookup ?_ (by with_unfolding_all rfl)
  refine wpAny_getItem_list_slice ht.isList (Heap.IsSliceOf.new ..) .none .none (.int _ _) (by decide) ?_ (by rw [List.size_toArray] <;> omega)
  rw [PySem.W.krv_pick]
  refine ⟨.ref _, _, I3.laid (t' := s2.toks) (o := .lst xs.reverse) (fun b ob q => Heap.get?_push_of_some _ q) (Nat.le_refl _) ?_, rfl, q _ (I3.hok.fresh (Nat.le_refl _))⟩
  exact ⟨by rw [List.length_reverse]; exact hz, _, 0, vals_back rv, Heap.get?_push_size _ rfl⟩
end
end Tv

set_option Elab.async false
set_option linter.all false
set_option maxRecDepth 100000
set_option maxHeartbeats 4000000
namespace K63
open PySem L2 Lay Own SrtO Tv Ow
local macro_rules | `(tactic| walk_at "ne") => `(tactic| first | assumption | (apply Ne.symm; assumption) | exact ne_of_none (by walk_at "look") (by assumption) | exact (ne_of_none (by walk_at "look") (by assumption)).symm)
local macro_rules | `(tactic| walk_at "look") => `(tactic| first | assumption | exact upd_same | (refine Eq.trans (upd_ne ?_) ?_; walk_at "ne"; walk_at "look"))
local macro_rules | `(tactic| walk_at "rds") => `(tactic| first | rfl | assumption | walk_at "look" | exact SqL.of (by walk_at "look") | exact SqT.of (by walk_at "look") | exact Or.inl (SqL.of (by walk_at "look")) | exact Or.inl (by assumption) | decide | omega | exact Nat.le_of_ble_eq_true rfl | exact Or.inr ⟨by decide, by decide⟩ | exact Or.inl ⟨by omega, by omega⟩ | exact ⟨by decide, by decide⟩)
local macro_rules | `(tactic| walk_at "rd1") => `(tactic| first | (apply Exists.intro) | (refine And.intro ?_ ?_; walk_at "rds") | (refine Or.inl ?_; apply Exists.intro; refine And.intro ?_ ?_; rfl))
local macro_rules | `(tactic| walk_at "rd") => `(tactic| repeat walk_at "rd1")
section
variable {P : Program} {w : World} {K : PySem.W.Frag} {mg : Str → Option Value} {base : Heap}
/-! rows that are handed in by Made -/
abbrev md (K : PySem.W.Frag) : Addr := He.ga K "Made"
theorem made_ty (T : Txt K mg) {H : Hp} {a dx : Addr} {fs : List (Str × V)} (h : H a = some (.ins (md K) dx fs)) : TyX K H (.ref a) (.ref (md K)) := .base (.ins h T.mcls T.mca T.cn T.ct T.mmo)
def MadeAt (K : PySem.W.Frag) (H : Hp) (y d : Addr) : Prop := ∃ dy, H y = some (.ins (md K) dy [("rows", .ref d)])
def spMade (K : PySem.W.Frag) : Sp := fun vs H Q _ => ∃ y dy d, vs = [.ref y, .ref d] ∧ H y = some (.ins (md K) dy []) ∧ Q .non (upd H y (.ins (md K) dy [("rows", .ref d)]))
theorem d_made (T : Txt K mg) : MDf P w K mg base 1 (He.ma K (md K) "__init__") ["self", "rows"] (spMade K) := by
  refine T.mM___init__.by sc_Made___init (fun vs H Q E h => ?_) (fun f cdv A outer s H vs Q E hr hgd h => ?_)
  · obtain ⟨y, dy, d, rfl, _⟩ := h; rfl
  · obtain ⟨y, dy, d, rfl, hy, k⟩ := h
    refine ⟨_, (pss_one (ps_fld (pv 0) (pv 1) rfl)), ?_⟩
    exact ⟨_, rfl, _, rfl, y, md K, dy, [], rfl, hy, T.mcls, T.mno_rows, by decide, k⟩
def spIniM (K : PySem.W.Frag) : Sp := fun vs H Q _ => ∃ x dx y d m S, vs = [.ref x, .int m, .ref y] ∧ H x = some (.ins (kp K) dx []) ∧ H dx = some (.own x) ∧ MadeAt K H y d ∧ MT H d S ∧ 1 ≤ m ∧ m ≤ 500 ∧
  ∀ H', (∀ b o, H b = some o → b ≠ x → H' b = some o) → PlanAt K H' x m S → Q .non H'
theorem d_initM (T : Txt K mg) : MDf P w K mg base 7 (He.ma K (kp K) "__init__") ["self", "period", "partners"] (spIniM K) := by
  have D_is_period := d_is_period (P := P) (w := w) (base := base) T
  have D_is_partners := d_is_partners (P := P) (w := w) (base := base) T
  have D_in_sequence := d_in_sequence (P := P) (w := w) (base := base) T
  refine T.M___init__.by sc_Plan___init (fun vs H Q E h => ?_) (fun f cdv A outer s H vs Q E hr hgd h => ?_)
  · obtain ⟨x, dx, y, d, m, S, rfl, _⟩ := h; rfl
  · obtain ⟨x, dx, y, d, m, S, rfl, hx, hdx, ⟨dy, hy⟩, mt, m1, m5, k⟩ := h
    refine ⟨_, (pss_cons (ps_if (pt_not (pt_val (pe_own D_is_period (hr.mono (by first | decide | omega)) hgd (pa_cons (pv 1) pa_nil)))) (pss_one ps_never) pss_nil)
      (pss_cons (ps_if (PW.pt (pw_and (pt_not (pt_val (pe_callB (Exv.call_isE T.gs) (by rfl) T.n_isinstance (by decide +kernel) (pa_cons (pv 2) (pa_cons (pe_glob (v := .ref (He.ga K "Made")) (by rfl) T.g_Made rfl) pa_nil))))) (pw_and1 (pt_not (pt_val (pe_own D_is_partners (hr.mono (by first | decide | omega)) hgd (pa_cons (pv 1) (pa_cons (pv 2) pa_nil)))))))) (pss_one ps_never) pss_nil)
      (pss_cons (ps_fld (pv 0) (pv 1) rfl)
      (pss_one (ps_fld (pv 0) (pe_ifExp (pt_val (pe_callB (Exv.call_isE T.gs) (by rfl) T.n_isinstance (by decide +kernel) (pa_cons (pv 2) (pa_cons (pe_glob (v := .ref (He.ga K "Made")) (by rfl) T.g_Made rfl) pa_nil)))) (pe_fld (pv 2) rfl) (pe_own D_in_sequence (hr.mono (by first | decide | omega)) hgd (pa_cons (pv 2) pa_nil))) rfl))))), ?_⟩
    refine ⟨_, rfl, m, rfl, m1, m5, true, rfl, iteF ?_⟩
    refine ⟨_, rfl, .ref y, .ref (He.ga K "Made"), .ref (md K), .ref (He.ga K "Made"), true, rfl, .own _, .base (made_ty T hy), T.mkk, true, rfl, ?_⟩
    refine iteF ?_
    refine iteF ?_
    refine ⟨_, rfl, _, rfl, x, kp K, dx, [], rfl, hx, T.cls, T.no_period, by decide, ?_⟩
    have nx : ∀ {b : Addr} {u : HO}, H b = some u → (∀ fs, u ≠ .ins (kp K) dx fs) → b ≠ x := fun {b u} e ne z => by
      rw [z, hx] at e
      exact ne _ (Option.some.inj e).symm
    have yx : y ≠ x := fun z => by
      rw [z, hx] at hy
      have h2 := (HO.ins.inj (Option.some.inj hy)).2.2
      cases h2
    have s2 : ∀ b o, H b = some o → b ≠ x → (upd H x (.ins (kp K) dx (putF "_period" (.int m) []))) b = some o := fun b o e ne => (upd_ne ne).trans e
    have mt2 : MT (upd H x (.ins (kp K) dx (putF "_period" (.int m) []))) d S := ⟨s2 _ _ mt.1 (nx mt.1 fun fs z => (nomatch z)), fun r hr => s2 _ _ (mt.2 r hr) (nx (mt.2 r hr) fun fs z => (nomatch z))⟩
    have hx2 : (upd H x (.ins (kp K) dx (putF "_period" (.int m) []))) x = some (.ins (kp K) dx (putF "_period" (.int m) [])) := upd_same
    have hy2 := s2 _ _ hy yx
    have hdx2 := s2 _ _ hdx (nx hdx fun fs z => (nomatch z))
    generalize upd H x (.ins (kp K) dx (putF "_period" (.int m) [])) = H2 at mt2 hx2 hy2 hdx2 s2 ⊢
    refine ⟨_, rfl, .ref y, .ref (He.ga K "Made"), .ref (md K), .ref (He.ga K "Made"), true, rfl, .own _, .base (made_ty T hy2), T.mkk, true, rfl, iteT ?_⟩
    refine ⟨_, rfl, y, md K, dy, _, _, rfl, hy2, T.mcls, T.mno_rows, rfl, ?_⟩
    refine ⟨_, rfl, x, kp K, dx, _, rfl, hx2, T.cls, T.no_partners, (show (1 : Nat) < 1000 by decide), ?_⟩
    have nx2 : ∀ {b : Addr} {u : HO}, H2 b = some u → (∀ fs, u ≠ .ins (kp K) dx fs) → b ≠ x := fun {b u} e ne z => by
      rw [z, hx2] at e
      exact ne _ (Option.some.inj e).symm
    refine k _ (fun b o e ne => (upd_ne ne).trans (s2 b o e ne)) ⟨dx, d, upd_same, ?_, ?_, fun r hr => ?_⟩
    · exact (upd_ne (nx2 hdx2 fun fs z => (nomatch z))).trans hdx2
    · exact (upd_ne (nx2 mt2.1 fun fs z => (nomatch z))).trans mt2.1
    · exact (upd_ne (nx2 (mt2.2 r hr) fun fs z => (nomatch z))).trans (mt2.2 r hr)
end
end K63

set_option Elab.async false
set_option linter.all false
set_option maxRecDepth 100000
set_option maxHeartbeats 4000000
/-! ### == of dicts whose keys are tuples: as many, one pair otherwise -/
namespace Tv
open PySem L2 Lay Own PySem.Spec PyProof.Rows
section
variable {prog : Program} {w : World} {A : Around} {E : Value → Shared → Prop} {s : Shared}
theorem same_pairsF {K : Type} [DecidableEq K] {knd : HeapKind prog w K} {nm : String} {a b : Addr} {xa xb : List (K × Addr × Value)} {Q : Bool → Shared → Prop} (hr : knd.room A) (ha : (a == sysModules) = false) (hb : (b == sysModules) = false)
    (da : s.heap.DictOfH knd a xa) (db : s.heap.DictOfH knd b xb) (le : xa.length = xb.length) (t : K × Addr × Value → Bool)
    (all : ∀ x ∈ xa, (t x = false ∧ atKey xb x.1 = none) ∨ ∃ p, atKey xb x.1 = some p ∧ SeqAt.EqAt A s x.2.2 p.2 (t x)) (bad : ∃ x ∈ xa, t x = false) (q : Q false s) :
    wpAny (model prog w) A (Builtin.Dict.samePairs nm a b) Q E s := by
  obtain ⟨oa, es, ep, ga, ca, ta, ea, ia, na⟩ := da
  obtain ⟨ob, fs, fp, gb, cb, tb, eb, ib, nb⟩ := db
  have la := size_of_entries ea
  have lb := size_of_entries eb
  unfold Builtin.Dict.samePairs Builtin.Dict.showsAll
  rw [if_neg (by rw [ha]; exact Bool.false_ne_true), if_neg (by rw [hb]; exact Bool.false_ne_true)]
  refine wpAny_bind (wpAny_pure (wpAny_bind (wpAny_pure (wpAny_bind (wpAny_dictEntries ga ta ?_)))))
  dsimp only
  refine wpAny_bind (wpAny_dictEntries gb tb ?_)
  rw [if_neg (by simp; omega)]
  refine wpAny_bind (wpAny_dictEpoch ga ta (wpAny_bind ?_))
  rw [Std.Legacy.Range.forIn_eq_forIn_range']
  simp only [Std.Legacy.Range.size, Nat.sub_zero, Nat.add_sub_cancel, Nat.div_one]
  obtain ⟨x0, hx0, bx0⟩ := bad
  obtain ⟨i1, hi1⟩ := List.mem_iff_getElem?.mp hx0
  have l1 : i1 < xa.length := (List.getElem?_eq_some_iff.mp hi1).1
  refine wpAny_forIn_list _ (fun rest c s' => s' = s ∧ c = (none, ()) ∧ ∃ i0, i0 ≤ i1 ∧ rest = List.range' i0 (es.size - i0) 1) _ ?_ ?_ _ _ ⟨rfl, rfl, 0, Nat.zero_le _, by rw [Nat.sub_zero]⟩
  · rintro i rest c s' ⟨rfl, rfl, i0, le0, er⟩
    have hi0 : i0 < es.size := by omega
    obtain ⟨n, hn⟩ : ∃ n, es.size - i0 = n + 1 := ⟨es.size - i0 - 1, by omega⟩
    rw [hn, List.range'_succ] at er
    obtain ⟨rfl, rfl⟩ := List.cons.inj er
    have hx : i < xa.length := by omega
    refine wpAny_bind (wpAny_dictEntries ga ta ?_)
    rw [entry_at ea i, List.getElem?_eq_getElem hx]
    have cs := all _ (List.getElem_mem hx)
    have ix := ia _ (List.getElem_mem hx)
    have same1 : i = i1 → t xa[i] = false := fun e => by
      subst e
      have z := List.getElem?_eq_getElem hx
      rw [hi1] at z
      rw [← Option.some.inj z]
      exact bx0
    generalize xa[i] = x at cs ix same1
    show wpAny _ _ (holding [Value.ref x.2.1, x.2.2] _ >>= _) _ _ _
    refine wpAny_bind (wpAny_holding (wpAny_bind ?_))
    refine wpAny_dictFind_heap (k := x.1) hr ix gb tb eb ib nb (fun no => ?_) (fun j r hj => ?_)
    · exact wpAny_pure (wpAny_pure (wpAny_pure q))
    · have hp' := atKey_of_get nb hj
      rcases cs with ⟨_, z⟩ | ⟨p, hp, eq⟩
      · rw [hp'] at z
        cases z
      · rw [hp] at hp'
        cases hp'
        refine wpAny_bind (wpAny_dictEntries gb tb ?_)
        rw [entry_at eb j, hj]
        refine wpAny_holding (eq prog w _ _ ?_)
        cases ht : t x with
        | false => exact wpAny_pure (wpAny_pure q)
        | true =>
          show wpAny _ _ (if (!true) = true then _ else _) _ _ _
          rw [if_neg (by decide)]
          refine wpAny_bind (wpAny_dictEpoch ga ta ?_)
          rw [if_neg (by simp)]
          have ne : i ≠ i1 := fun e => by
            have z := same1 e
            rw [ht] at z
            cases z
          exact wpAny_pure ⟨rfl, rfl, i + 1, by omega, by rw [show es.size - (i + 1) = n by omega]⟩
  · rintro c s' ⟨rfl, rfl, i0, le0, er⟩
    have hi0 : i0 < es.size := by omega
    obtain ⟨n, hn⟩ : ∃ n, es.size - i0 = n + 1 := ⟨es.size - i0 - 1, by omega⟩
    rw [hn, List.range'_succ] at er
    cases er
end
end Tv
namespace Tv
open PySem L2 Lay Own PySem.Spec PyProof.Rows
section
variable {X : Cx}
/-- two dicts whose keys are tuples, of one length: t tells of each key whether the other one has the same there; somewhere it has not -/
def rDF (K : PySem.W.Frag) (neg : Bool) : R2 := fun x y H Q => ∃ a b ks ls, x = .ref a ∧ y = .ref b ∧ Rd H a (.dT ks) ∧ Rd H b (.dT ls) ∧ ks.length = ls.length ∧ ∃ t : List Key → Bool,
  (∀ p ∈ ks, (t p.1 = false ∧ valV ls p.1 = none) ∨ ∃ z d e, valV ls p.1 = some z ∧ Dp K H p.2 d ∧ Dp K H z e ∧ SeqAt.shaped d = true ∧ SeqAt.shaped e = true ∧ PyData.eqv d e = t p.1) ∧ (∃ p ∈ ks, t p.1 = false) ∧ Q (.bl neg) H
theorem hit_any {pins : List (Addr × Obj)} {s : Shared} {σ : L2.St} {H : Hp} {A : Around} {v z : V} {d e : PyData} {u t : Value} (I : Inv X pins σ H s) (hu : A.units + 64 < cLine) (h1 : Dp X.K H v d) (h2 : Dp X.K H z e) (s1 : SeqAt.shaped d = true) (s2 : SeqAt.shaped e = true) (r1 : RelV v u) (r2 : RelV z t) :
    SeqAt.EqAt A s u t (PyData.eqv d e) := by
  obtain ⟨as, ra⟩ := Dp.reads I d v u h1 r1
  obtain ⟨bs, rb⟩ := Dp.reads I e z t h2 r2
  exact SeqAt.eqAt_reads d e A s u t as bs ra rb (SeqAt.canLay_of_shaped s1) (SeqAt.canLay_of_shaped s2) (SeqAt.room_of_shaped s1 hu)
theorem hits_dF {pins : List (Addr × Obj)} {s : Shared} {σ : L2.St} {H : Hp} {A : Around} {ks ls : List (List Key × V)} {xa xb : List (List Key × Addr × Value)} (I : Inv X pins σ H s) (hu : A.units + 64 < cLine) (ra : KT H ks xa) (rb : KT H ls xb) (t : List Key → Bool)
    (all : ∀ p ∈ ks, (t p.1 = false ∧ valV ls p.1 = none) ∨ ∃ z d e, valV ls p.1 = some z ∧ Dp X.K H p.2 d ∧ Dp X.K H z e ∧ SeqAt.shaped d = true ∧ SeqAt.shaped e = true ∧ PyData.eqv d e = t p.1) : ∀ x ∈ xa, (t x.1 = false ∧ atKey xb x.1 = none) ∨ ∃ p, atKey xb x.1 = some p ∧ SeqAt.EqAt A s x.2.2 p.2 (t x.1) := by
  intro x hx
  obtain ⟨j, hj⟩ := List.mem_iff_getElem?.mp hx
  obtain ⟨p, hp, e1, _, e3⟩ := L2.DX.pget ra hj
  have rz := rb.val p.1
  rcases all p (List.mem_of_getElem? hp) with ⟨h1, h2⟩ | ⟨z, d, e, hz, h1, h2, s1, s2, q⟩
  · left
    rw [← e1]
    refine ⟨h1, ?_⟩
    rw [h2] at rz
    cases h : atKey xb p.1 with
    | none => rfl
    | some y => rw [h] at rz; cases rz
  · right
    rw [hz] at rz
    obtain ⟨w', hw, rw'⟩ := RelO.some_of (v := z) (o := (atKey xb p.1).map (·.2)) rz
    obtain ⟨y, hy, ey⟩ := Option.map_eq_some_iff.mp hw
    rw [← e1]
    refine ⟨y, hy, ?_⟩
    rw [ey, ← q]
    exact hit_any I hu h1 h2 s1 s2 e3 rw'
theorem bad_dF {H : Hp} {ks : List (List Key × V)} {xa : List (List Key × Addr × Value)} (ra : KT H ks xa) (t : List Key → Bool) (bad : ∃ p ∈ ks, t p.1 = false) : ∃ x ∈ xa, t x.1 = false := by
  obtain ⟨p, hp, e⟩ := bad
  obtain ⟨j, hj⟩ := List.mem_iff_getElem?.mp hp
  have lj : j < xa.length := by rw [← Paired.length ra]; exact (List.getElem?_eq_some_iff.mp hj).1
  obtain ⟨p2, hp2, e1, _, _⟩ := L2.DX.pget ra (List.getElem?_eq_getElem lj)
  rw [hj] at hp2
  cases hp2
  exact ⟨_, List.getElem_mem lj, by rw [← e1]; exact e⟩
theorem op_eqF2 (hu : X.A.units + 70 < cLine) : OpR X (compareOp .Eq) (rDF X.K false) := by
  intro pins s σ H x y v u Q I rx ry h
  obtain ⟨a, b, ks, ls, rfl, rfl, ea, eb, le, t, all, bad, q⟩ := h
  obtain rfl : v = Value.ref a := rx
  obtain rfl : u = Value.ref b := ry
  obtain ⟨_, ya, xa, ra, da⟩ := dt_rd I.hok ea
  obtain ⟨_, yb, xb, rb, db⟩ := dt_rd I.hok eb
  refine wpAny_richCompare_same_room (op := .Eq) da.typeIs db.typeIs PySem.F.slot_dict_eq (wpAny_call_entry PySem.F.slot_dict_eq da.typeIs PySem.F.entry_dict_eq ?_ (PySem.F.args_dict_eq_2 _ _)) (by omega)
  show wpAny _ _ (Builtin.Dict.dictSlotArgs "__eq__" ⟨[.ref a, .ref b], []⟩ >>= _) _ _ s
  refine wpAny_bind ?_
  unfold Builtin.Dict.dictSlotArgs
  refine wpAny_bind (wpAny_notOrdered_dict da.typeIs ?_)
  show wpAny _ _ (pure (Value.ref a, Value.ref b)) _ _ s
  refine wpAny_pure (wpAny_bind (wpAny_isInstance (T := "dict") db.typeIs PySem.F.sub_dict_dict ?_))
  simp only [Bool.not_true, Bool.false_eq_true, if_false]
  refine wpAny_bind (wpAny_pure (wpAny_bind (wpAny_pure (wpAny_bind ?_))))
  have rm : (tupleKind (mixKind X.prog X.w)).room X.A.in1 := by show X.A.units + 1 < cLine; omega
  have l1 := Paired.length ra
  have l2 := Paired.length rb
  exact same_pairsF rm ya yb da db (by omega) (fun x => t x.1) (hits_dF I (by show X.A.units + 1 + 64 < cLine; omega) ra rb t all) (bad_dF ra t bad) (wpAny_pure ⟨_, rfl, fun z => (nomatch z), .bl false, H, I, rfl, q⟩)
theorem op_neF2 (hu : X.A.units + 70 < cLine) : OpR X (compareOp .NotEq) (rDF X.K true) := by
  intro pins s σ H x y v u Q I rx ry h
  obtain ⟨a, b, ks, ls, rfl, rfl, ea, eb, le, t, all, bad, q⟩ := h
  obtain rfl : v = Value.ref a := rx
  obtain rfl : u = Value.ref b := ry
  obtain ⟨_, ya, xa, ra, da⟩ := dt_rd I.hok ea
  obtain ⟨_, yb, xb, rb, db⟩ := dt_rd I.hok eb
  refine wpAny_richCompare_same_room (op := .NotEq) da.typeIs db.typeIs PySem.F.slot_dict_ne (wpAny_call_entry PySem.F.slot_dict_ne da.typeIs PySem.F.entry_dict_ne ?_ (PySem.F.args_dict_ne_2 _ _)) (by omega)
  show wpAny _ _ (Builtin.Dict.dictSlotArgs "__ne__" ⟨[.ref a, .ref b], []⟩ >>= _) _ _ s
  refine wpAny_bind ?_
  unfold Builtin.Dict.dictSlotArgs
  refine wpAny_bind (wpAny_notOrdered_dict da.typeIs ?_)
  show wpAny _ _ (pure (Value.ref a, Value.ref b)) _ _ s
  refine wpAny_pure (wpAny_bind (wpAny_isInstance (T := "dict") db.typeIs PySem.F.sub_dict_dict ?_))
  simp only [Bool.not_true, Bool.false_eq_true, if_false]
  refine wpAny_bind (wpAny_pure (wpAny_bind (wpAny_pure (wpAny_bind ?_))))
  have rm : (tupleKind (mixKind X.prog X.w)).room X.A.in1 := by show X.A.units + 1 < cLine; omega
  have l1 := Paired.length ra
  have l2 := Paired.length rb
  exact same_pairsF rm ya yb da db (by omega) (fun x => t x.1) (hits_dF I (by show X.A.units + 1 + 64 < cLine; omega) ra rb t all) (bad_dF ra t bad) (wpAny_pure ⟨_, rfl, fun z => (nomatch z), .bl true, H, I, rfl, q⟩)
/-- one rule or the other -/
theorem op_or {f : Value → Value → Sem Value} {r1 r2 : R2} (h1 : OpR X f r1) (h2 : OpR X f r2) : OpR X f (fun x y H Q => r1 x y H Q ∨ r2 x y H Q) := by
  intro pins s σ H x y v u Q I rx ry h
  rcases h with h | h
  · exact h1 pins s σ H x y v u Q I rx ry h
  · exact h2 pins s σ H x y v u Q I rx ry h
end
end Tv

set_option Elab.async false
set_option linter.all false
set_option maxRecDepth 100000
set_option maxHeartbeats 4000000
namespace K63
open PySem L2 Lay Own SrtO Tv Ow
local macro_rules | `(tactic| walk_at "ne") => `(tactic| first | assumption | (apply Ne.symm; assumption) | exact ne_of_none (by walk_at "look") (by assumption) | exact (ne_of_none (by walk_at "look") (by assumption)).symm)
local macro_rules | `(tactic| walk_at "look") => `(tactic| first | assumption | exact upd_same | (refine Eq.trans (upd_ne ?_) ?_; walk_at "ne"; walk_at "look"))
local macro_rules | `(tactic| walk_at "rds") => `(tactic| first | rfl | assumption | walk_at "look" | exact SqL.of (by walk_at "look") | exact SqT.of (by walk_at "look") | exact Or.inl (SqL.of (by walk_at "look")) | exact Or.inl (by assumption) | decide | omega | exact Nat.le_of_ble_eq_true rfl | exact Or.inr ⟨by decide, by decide⟩ | exact Or.inl ⟨by omega, by omega⟩ | exact ⟨by decide, by decide⟩)
local macro_rules | `(tactic| walk_at "rd1") => `(tactic| first | (apply Exists.intro) | (refine And.intro ?_ ?_; walk_at "rds") | (refine Or.inl ?_; apply Exists.intro; refine And.intro ?_ ?_; rfl))
local macro_rules | `(tactic| walk_at "rd") => `(tactic| repeat walk_at "rd1")

section
variable {P : Program} {w : World} {K : PySem.W.Frag} {mg : Str → Option Value} {base : Heap}
theorem pe_fldK {X : Cx} {C : PySem.W.Frag} {e : Expr} {ta : TE} {f : PySem.Str} {pos : Pos} (hK : X.K = C) (he : PE X e ta) (hb : attributeBase e f X.env (eval e X.env) = eval e X.env) : PE X (.Attribute e f pos) (tFld C ta f) := hK ▸ pe_fld he hb
def spPrd (K : PySem.W.Frag) : Sp := fun vs H Q _ => ∃ a dx d m, vs = [.ref a] ∧ H a = some (.ins (kp K) dx [("_period", .int m), ("_partners", .ref d)]) ∧ Q (.int m) H
theorem d_period (T : Txt K mg) : MDf P w K mg base 1 (Pl.pr K "period") ["self"] (spPrd K) := by
  refine T.M_period.by sc_Plan_period (fun vs H Q E h => ?_) (fun f cdv A outer s H vs Q E hr hgd h => ?_)
  · obtain ⟨a, dx, d, m, rfl, _⟩ := h; rfl
  · obtain ⟨a, dx, d, m, rfl, ha, k⟩ := h
    refine ⟨_, (pss_one (ps_ret (pe_fld (pv 0) rfl))), ?_⟩
    exact ⟨_, rfl, a, kp K, dx, _, _, rfl, ha, T.cls, T.no_period, rfl, k⟩
def spPts (K : PySem.W.Frag) : Sp := fun vs H Q _ => ∃ a m S, vs = [.ref a] ∧ PlanAt K H a m S ∧ (S.map (·.1)).Nodup ∧ S.length ≤ 50000 ∧ ∀ e H', L2.Same H H' → H e = none → MT H' e S → Q (.ref e) H'
theorem d_partners (T : Txt K mg) : MDf P w K mg base 1 (He.ma K (kp K) "partners") ["self"] (spPts K) := by
  refine T.M_partners.by sc_Plan_partners (fun vs H Q E h => ?_) (fun f cdv A outer s H vs Q E hr hgd h => ?_)
  · obtain ⟨a, m, S, rfl, _⟩ := h; rfl
  · obtain ⟨a, m, S, rfl, ⟨dx, d, ha, hdx, mt⟩, nd, lS, k⟩ := h
    refine ⟨_, (pss_one (ps_ret (pe_lock (Tv.pe_dcA (own := [("at", 1)]) (u := .dT []) (hu_of hr) (fun H h hb => dt_empty h hb) rfl sc_Plan_partners.nd (pi_keys (pe_fld (pv 0) rfl)) (blkOk_by (own := [("at", 1)]) (N := ["self", "at"]) (sc := defScope s_Plan_partners) (by decide +kernel)) (fun _ _ _ _ _ => (pg_name (i := 1) sc_Plan_partners.nd rfl (by first | exact Or.inl rfl | exact Or.inr rfl))) (fun _ _ _ _ _ => pts_nil) (fun _ _ _ _ _ => (pv 1)) (fun _ _ _ _ _ => (pe_dget (hu_of hr) (pe_fldK (C := K) rfl (pv 0) rfl) (pv 1) (fun _ _ => rfl))))))), ?_⟩
    have had : a ≠ d := fun z => by rw [z, mt.1] at ha; cases ha
    refine ⟨d, .dT _, mt.1, trivial, fun od => ?_⟩
    refine ⟨_, rfl, a, kp K, dx, _, _, rfl, (upd_ne had).trans ha, T.cls, T.no_partners, rfl, d, od, rfl, .inr ⟨_, upd_same, fun E nE => ?_⟩⟩
    refine dcA_it (walk_keysT (kvs := S.map fun r => (tk r.1, V.ref r.2.1))) (fun i H' => L2.Same (upd H d (.frz od (.dT (S.map fun r => (tk r.1, V.ref r.2.1))))) H' ∧ H' E = some (.dT ((S.take i).map fun r => (tk r.1, V.ref r.2.1)))) ⟨Same.new nE, upd_same⟩ (fun i H' _ q => q.1 _ _ upd_same) (fun i x H1 H2 hi q y => ?_) (fun H1 q => ?_)
    · obtain ⟨sm, hE⟩ := q
      obtain ⟨rfl, kk, vv, qq, hkv, rfl, hq⟩ := y
      rw [List.length_map] at hi
      have hsi : S[i]? = some S[i] := List.getElem?_eq_getElem hi
      rw [List.getElem?_map, hsi] at hkv
      cases hkv
      have tki : S.take (i + 1) = S.take i ++ [S[i]] := by rw [List.take_add_one, hsi]; rfl
      have hr_ : S[i] ∈ S := List.getElem_mem hi
      generalize S[i] = r at hsi hr_ tki hq
      have lt : ((S.take i).map fun r => (tk r.1, V.ref r.2.1)).length < sizeLine := by
        rw [List.length_map]
        exact Nat.lt_of_le_of_lt (List.length_take_le' _ _) (Nat.lt_of_le_of_lt lS (by decide +kernel))
      have g2 : DGet H2 d (.ref qq) (some (.ref r.2.1)) := .inr ⟨_, tk r.1, qq, .inr ⟨od, sm _ _ upd_same⟩, rfl, hq, (row_val nd hr_).symm⟩
      refine ⟨rfl, _, rfl, _, rfl, a, kp K, dx, _, _, rfl, sm _ _ ((upd_ne had).trans ha), T.cls, T.no_partners, rfl, _, rfl, d, _, rfl, g2, _, DPut.t (k := tk r.1) hE hq lt, Same.mut sm nE, ?_⟩
      rw [tki, List.map_append, L2.putK_new _ (val_none.mpr fun q hq e => ?_)]
      · exact upd_same
      · have hqS := List.mem_of_mem_take hq
        have e3 := key_row nd hqS hr_ e
        rw [e3] at hq
        have nd' : S.Nodup := List.Pairwise.imp (fun {a b} h e => h (congrArg _ e)) (List.pairwise_map.mp nd)
        obtain ⟨j, hj⟩ := List.mem_iff_getElem?.mp hq
        rw [List.getElem?_take] at hj
        by_cases c : j < i
        · rw [if_pos c] at hj
          have := (List.getElem?_inj (List.getElem?_eq_some_iff.mp hj).1 nd').mp (hj.trans hsi.symm)
          omega
        · rw [if_neg c] at hj
          cases hj
    · obtain ⟨sm, hE⟩ := q
      rw [List.length_map, List.take_length] at hE
      have fz := sm _ _ upd_same
      refine ⟨fz, ?_⟩
      have t1 := lock_same mt.1 sm
      have nEH : H E = none := by
        by_cases c : E = d
        · rw [c, upd_same] at nE; cases nE
        · rw [upd_ne c] at nE; exact nE
      have hE1 : (upd H1 d (.dT (S.map fun r => (tk r.1, V.ref r.2.1)))) E = some (.dT (S.map fun r => (tk r.1, V.ref r.2.1))) := (upd_ne fun z => by rw [z, fz] at hE; cases hE).trans hE
      exact k E _ t1 nEH ⟨hE1, fun r hr => t1 _ _ (mt.2 r hr)⟩
def spCall (K : PySem.W.Frag) : Sp := fun vs H Q _ => ∃ a m S i n, vs = [.ref a, .int i, .str n] ∧ PlanAt K H a m S ∧ 1 ≤ m ∧ Wd n ∧ ∀ v H', L2.Same H H' → PV H' (mate m S (i, n)) v → Q v H'
theorem d_call (T : Txt K mg) : MDf P w K mg base 4 (He.ma K (kp K) "__call__") ["self", "x", "name"] (spCall K) := by
  have D_check_column := d_check_column (P := P) (w := w) (base := base) T
  have D_is_name := d_is_name (P := P) (w := w) (base := base) T
  refine T.M___call__.by sc_Plan___call (fun vs H Q E h => ?_) (fun f cdv A outer s H vs Q E hr hgd h => ?_)
  · obtain ⟨a, m, S, i, n, rfl, _⟩ := h; rfl
  · obtain ⟨a, m, S, i, n, rfl, ⟨dx, d, ha, hdx, mt⟩, m1, wn, k⟩ := h
    refine ⟨_, (pss_cons (ps_expr (pe_own D_check_column (hr.mono (by first | decide | omega)) hgd (pa_cons (pv 1) pa_nil)))
      (pss_cons (ps_if (pt_not (pt_val (pe_own D_is_name (hr.mono (by first | decide | omega)) hgd (pa_cons (pv 2) pa_nil)))) (pss_one ps_never) pss_nil)
      (pss_cons (ps_set (i := 3) sc_Plan___call.nd rfl (by first | exact Or.inl rfl | exact Or.inr rfl) (pe_dget1 (hu_of hr) (pe_fld (pv 0) rfl) (pe_tup (pa_cons (pe_op op_mod (pv 1) (pe_fld (pv 0) rfl)) (pa_cons (pv 2) pa_nil))) ⟨rfl, rfl, rfl, rfl⟩))
      (pss_cons (ps_if (pt_cmpR op_isN (pv 3) pe_non (nomark _)) (pss_one (ps_ret pe_non)) pss_nil)
      (pss_one (ps_ret (pe_tup (pa_cons (pe_op op_add (pv 1) (pe_ix ix_tup (pv 3) pe_int (fun _ _ => rfl))) (pa_cons (pe_ix ix_tup (pv 3) pe_int (fun _ _ => rfl)) pa_nil))))))))), ?_⟩
    have l1 : n.length ≤ 100000 := Nat.le_trans wn.len (by decide)
    refine ⟨_, rfl, i, rfl, ?_⟩
    refine ⟨_, rfl, .str n, rfl, .str n l1, fun H1 s1 => ?_⟩
    rw [show nB (.str n) = true from wn.name]
    refine ⟨true, rfl, iteF ?_⟩
    have ha1 := s1 _ _ ha
    have mt1 := mt.same s1
    refine ⟨_, rfl, a, kp K, dx, _, _, rfl, ha1, T.cls, T.no_partners, rfl, d, rfl, .inr ⟨_, .inl mt1.1⟩, ?_⟩
    refine ⟨_, rfl, _, rfl, a, kp K, dx, _, _, rfl, ha1, T.cls, T.no_period, rfl, i, m, rfl, rfl, by omega, _, rfl, by show (2 : Nat) ≤ sizeLine; decide +kernel, fun u nu => ?_⟩
    have s2 := Same.new (o := .tup [V.int (i % m), V.str n]) nu
    refine ⟨_, .inr ⟨_, tk (i % m, n), u, .inl (s2 _ _ mt1.1), rfl, upd_same, rfl⟩, ?_⟩
    have mt2 := mt1.same s2
    generalize upd H1 u (.tup [V.int (i % m), V.str n]) = H2 at mt2 s2
    have em : mate m S (i, n) = (S.find? fun r => decide (r.1 = (i % m, n))).map fun r => (i + r.2.2.1, r.2.2.2) := rfl
    rw [valV_tk]
    cases hf : S.find? fun r => decide (r.1 = (i % m, n)) with
    | none =>
      rw [hf] at em
      refine ⟨_, rfl, rfl, _, rfl, iteT ?_⟩
      exact k _ _ (s1.trans s2) (by rw [em]; rfl)
    | some r =>
      rw [hf] at em
      have hr1 := mt2.2 r (List.mem_of_find?_eq_some hf)
      refine ⟨_, rfl, rfl, _, rfl, iteF ?_⟩
      refine ⟨_, rfl, _, rfl, r.2.1, _, 0, _, rfl, rfl, SqT.of hr1, rfl, i, r.2.2.1, rfl, rfl, _, rfl, r.2.1, _, 1, _, rfl, rfl, SqT.of hr1, rfl, by show (2 : Nat) ≤ sizeLine; decide +kernel, fun q nq => ?_⟩
      exact k _ _ (s1.trans (s2.trans (Same.new nq))) (by rw [em]; exact ⟨q, rfl, upd_same⟩)
/-- what is asked of rows for a text, for == -/
def ROk (S : List Row) : Prop := ∀ r ∈ S, (0 ≤ r.1.1 ∧ r.1.1 < 1000) ∧ (-60 ≤ r.2.2.1 ∧ r.2.2.1 ≤ 60) ∧ Wd r.1.2 ∧ Wd r.2.2.2
/-- entries without the places of their tuples -/
def ct (S : List Row) : List (Spot × (Int × Str)) := S.map fun r => (r.1, r.2.2)
theorem ct_keys (S : List Row) : (ct S).map (·.1) = S.map (·.1) := by
  unfold ct
  rw [List.map_map]
  rfl
def spEq (K : PySem.W.Frag) : Sp := fun vs H Q _ => ∃ a m S y, vs = [.ref a, y] ∧ PlanAt K H a m S ∧
  ((∃ b m2 S2, y = .ref b ∧ PlanAt K H b m2 S2 ∧ ROk S ∧ (((m ≠ m2 ∨ S.length ≠ S2.length) ∧ Q (.bl false) H) ∨ (m = m2 ∧ (ct S).Perm (ct S2) ∧ (S.map (·.1)).Nodup ∧ Q (.bl true) H) ∨ (m = m2 ∧ S.length = S2.length ∧ ROk S2 ∧ (S.map (·.1)).Nodup ∧ (S2.map (·.1)).Nodup ∧ ¬ (ct S).Perm (ct S2) ∧ Q (.bl false) H))) ∨
   (∃ t, TyX K H y t ∧ PySem.W.kitOne K t (.ref (kp K)) = some false ∧ Q (.bl false) H))
theorem perm_same {H : Hp} {d d2 : Addr} {S S2 : List Row} (mt : MT H d S) (mt2 : MT H d2 S2) (ok : ROk S) (p : (ct S).Perm (ct S2)) (nd : (S.map (·.1)).Nodup) : ∀ q ∈ S.map (fun r => (tk r.1, V.ref r.2.1)), ∃ z d e, valV (S2.map fun r => (tk r.1, V.ref r.2.1)) q.1 = some z ∧ Dp K H q.2 d ∧ Dp K H z e ∧ SeqAt.shaped d = true ∧ SeqAt.shaped e = true ∧ PyData.eqv d e = true := by
  intro q hq
  obtain ⟨r, hr, rfl⟩ := List.mem_map.mp hq
  have nd2 : (S2.map (·.1)).Nodup := by
    rw [← ct_keys] at nd ⊢
    exact (p.map _).nodup_iff.mp nd
  obtain ⟨r2, hr2, e2⟩ := List.mem_map.mp (p.mem_iff.mp (List.mem_map.mpr ⟨r, hr, rfl⟩ : (r.1, r.2.2) ∈ ct S))
  have ek : r2.1 = r.1 := congrArg (fun z : Spot × (Int × Str) => z.1) e2
  have ev : r2.2.2 = r.2.2 := congrArg (fun z : Spot × (Int × Str) => z.2) e2
  have e := row_val nd2 hr2
  rw [ek] at e
  have sh := spD_sh (p := r.2.2) (ok r hr).2.2.2.ok
  have h2 := dp_spot (K := K) (mt2.2 r2 hr2)
  rw [ev] at h2
  refine ⟨_, spD r.2.2, spD r.2.2, e, dp_spot (mt.2 r hr), h2, sh, sh, ?_⟩
  have z := spD_ne (p := r.2.2) (q := r.2.2)
  rw [decide_eq_false (fun h => h rfl)] at z
  simpa using z
theorem ct_mem1 {S : List Row} (nd : (S.map (·.1)).Nodup) {r z : Row} (hr : r ∈ S) (hz : z ∈ S) (e : z.1 = r.1) : z = r := by
  obtain ⟨i, hi⟩ := List.mem_iff_getElem?.mp hr
  obtain ⟨j, hj⟩ := List.mem_iff_getElem?.mp hz
  obtain ⟨i1, hi⟩ := List.getElem?_eq_some_iff.mp hi
  obtain ⟨j1, hj⟩ := List.getElem?_eq_some_iff.mp hj
  have pw := List.pairwise_iff_getElem.mp (List.pairwise_map.mp nd)
  rcases Nat.lt_trichotomy i j with c | c | c
  · exact absurd (by rw [hi, hj]; exact e.symm) (pw i j i1 j1 c)
  · subst c
    rw [← hi, ← hj]
  · exact absurd (by rw [hi, hj]; exact e) (pw j i j1 i1 c)
theorem ct_nodup {S : List Row} (nd : (S.map (·.1)).Nodup) : (ct S).Nodup := by
  rw [← ct_keys] at nd
  exact List.Pairwise.imp (fun {a b} h e => h (congrArg _ e)) (List.pairwise_map.mp nd)
theorem ct_dif {H : Hp} {d d2 : Addr} {S S2 : List Row} (mt : MT H d S) (mt2 : MT H d2 S2) (ok : ROk S) (ok2 : ROk S2) (nd : (S.map (·.1)).Nodup) (nd2 : (S2.map (·.1)).Nodup) (le : S.length = S2.length) (np : ¬ (ct S).Perm (ct S2)) : ∃ t : List L2.Key → Bool,
    (∀ p ∈ S.map (fun r => (tk r.1, V.ref r.2.1)), (t p.1 = false ∧ valV (S2.map fun r => (tk r.1, V.ref r.2.1)) p.1 = none) ∨ ∃ z d e, valV (S2.map fun r => (tk r.1, V.ref r.2.1)) p.1 = some z ∧ Dp K H p.2 d ∧ Dp K H z e ∧ SeqAt.shaped d = true ∧ SeqAt.shaped e = true ∧ PyData.eqv d e = t p.1) ∧
    ∃ p ∈ S.map (fun r => (tk r.1, V.ref r.2.1)), t p.1 = false := by
  refine ⟨fun kk => S.any fun r => decide (tk r.1 = kk) && decide ((r.1, r.2.2) ∈ ct S2), fun p hp => ?_, ?_⟩
  · obtain ⟨r, hr, rfl⟩ := List.mem_map.mp hp
    have tv : (S.any fun z => decide (tk z.1 = tk r.1) && decide ((z.1, z.2.2) ∈ ct S2)) = decide ((r.1, r.2.2) ∈ ct S2) := by
      by_cases c : (r.1, r.2.2) ∈ ct S2
      · rw [decide_eq_true c]
        exact List.any_eq_true.mpr ⟨r, hr, by rw [decide_eq_true rfl, decide_eq_true c]; rfl⟩
      · rw [decide_eq_false c, List.any_eq_false]
        intro z hz h
        obtain ⟨h1, h2⟩ := Bool.and_eq_true_iff.mp h
        have e := ct_mem1 nd hr hz (tk_inj (of_decide_eq_true h1))
        rw [e] at h2
        exact c (of_decide_eq_true h2)
    show ((S.any fun z => decide (tk z.1 = tk r.1) && decide ((z.1, z.2.2) ∈ ct S2)) = false ∧ _) ∨ ∃ z d e, _ ∧ _ ∧ _ ∧ _ ∧ _ ∧ PyData.eqv d e = (S.any fun z => decide (tk z.1 = tk r.1) && decide ((z.1, z.2.2) ∈ ct S2))
    rw [tv]
    by_cases h : ∃ z ∈ S2, z.1 = r.1
    · right
      obtain ⟨z, hz, e⟩ := h
      have v := row_val nd2 hz
      rw [e] at v
      refine ⟨_, spD r.2.2, spD z.2.2, v, dp_spot (mt.2 r hr), dp_spot (mt2.2 z hz), spD_sh (ok r hr).2.2.2.ok, spD_sh (ok2 z hz).2.2.2.ok, ?_⟩
      have w := spD_ne (p := r.2.2) (q := z.2.2)
      by_cases c : r.2.2 = z.2.2
      · rw [decide_eq_false (fun h => h c)] at w
        rw [decide_eq_true (show (r.1, r.2.2) ∈ ct S2 from List.mem_map.mpr ⟨z, hz, by show (z.1, z.2.2) = (r.1, r.2.2); rw [e, c]⟩)]
        simpa using w
      · rw [decide_eq_true c] at w
        rw [decide_eq_false (fun h => ?_)]
        · simpa using w
        · obtain ⟨y, hy, ey⟩ := List.mem_map.mp h
          obtain ⟨e1, e2⟩ := Prod.mk.inj ey
          have := ct_mem1 nd2 hz hy (e1.trans e.symm)
          rw [this] at e2
          exact c e2.symm
    · left
      refine ⟨decide_eq_false fun h2 => ?_, val_none.mpr fun z hz e => h ⟨z, hz, e⟩⟩
      obtain ⟨y, hy, ey⟩ := List.mem_map.mp h2
      exact h ⟨y, hy, (Prod.mk.inj ey).1⟩
  · refine Classical.byContradiction fun no => np ?_
    have sub : ∀ y ∈ ct S, y ∈ ct S2 := fun y hy => by
      obtain ⟨r, hr, rfl⟩ := List.mem_map.mp hy
      refine Classical.byContradiction fun c => no ⟨(tk r.1, V.ref r.2.1), List.mem_map.mpr ⟨r, hr, rfl⟩, ?_⟩
      show (S.any fun z => decide (tk z.1 = tk r.1) && decide ((z.1, z.2.2) ∈ ct S2)) = false
      rw [List.any_eq_false]
      intro z hz h
      obtain ⟨h1, h2⟩ := Bool.and_eq_true_iff.mp h
      rw [ct_mem1 nd hr hz (tk_inj (of_decide_eq_true h1))] at h2
      exact c (of_decide_eq_true h2)
    refine (List.perm_ext_iff_of_nodup (ct_nodup nd) (ct_nodup nd2)).mpr fun y => ⟨sub y, fun hy => Classical.byContradiction fun c => ?_⟩
    have z := List.Nodup.length_le_of_subset (List.nodup_cons.mpr ⟨c, ct_nodup nd⟩) (show y :: ct S ⊆ ct S2 from fun x hx => by
      rcases List.mem_cons.mp hx with rfl | hx
      · exact hy
      · exact sub x hx)
    rw [List.length_cons] at z
    unfold ct at z
    rw [List.length_map, List.length_map] at z
    omega
theorem d_eq (T : Txt K mg) : MDf P w K mg base 1 (He.ma K (kp K) "__eq__") ["self", "other"] (spEq K) := by
  refine T.M___eq__.by sc_Plan___eq (fun vs H Q E h => ?_) (fun f cdv A outer s H vs Q E hr hgd h => ?_)
  · obtain ⟨a, m, S, x, rfl, _⟩ := h; rfl
  · obtain ⟨a, m, S, y, rfl, ⟨dx, d, ha, hdx, mt⟩, h⟩ := h
    refine ⟨_, (pss_one (ps_ret (pe_and (pe_callB (Exv.call_isE T.gs) (by rfl) T.n_isinstance (by decide +kernel) (pa_cons (pv 1) (pa_cons (pe_glob (v := .ref (He.ga K "Plan")) (by rfl) T.g_Plan rfl) pa_nil))) (pe_and (pe_cmpR op_eq (pe_fld (pv 0) rfl) (pe_fld (pv 1) rfl) (nomark _)) (pe_one (pe_cmpR (op_or (op_eqT (un70 hr)) (op_eqF2 (un70 hr))) (pe_fld (pv 0) rfl) (pe_fld (pv 1) rfl) (nomark _))))))), ?_⟩
    rcases h with ⟨b, m2, S2, rfl, ⟨dx2, d2, ha2, hdx2, mt2⟩, rok, h⟩ | ⟨t, ty, kt, k⟩
    · refine ⟨_, rfl, .ref b, .ref (kp K), .ref (kp K), .ref (kp K), true, rfl, .own _, .base (own_ty T ha2), T.kk, true, rfl, iteT ?_⟩
      refine ⟨_, rfl, a, kp K, dx, _, _, rfl, ha, T.cls, T.no_period, rfl, _, rfl, b, kp K, dx2, _, _, rfl, ha2, T.cls, T.no_period, rfl, ?_⟩
      refine ⟨rfl, _, rfl, ?_⟩
      rcases h with ⟨ne, k⟩ | ⟨rfl, p, nd, k⟩ | ⟨rfl, le, rok2, nd, nd2, np, k⟩
      · by_cases c : m = m2
        · subst c
          rw [decide_eq_true (show V.int m = V.int m from rfl)]
          refine iteT ?_
          refine ⟨_, rfl, a, kp K, dx, _, _, rfl, ha, T.cls, T.no_partners, rfl, _, rfl, b, kp K, dx2, _, _, rfl, ha2, T.cls, T.no_partners, rfl, ?_⟩
          refine .inl ⟨d, d2, _, _, rfl, rfl, .inl mt.1, .inl mt2.1, .inl ⟨?_, k⟩⟩
          rw [List.length_map, List.length_map]
          exact ne.resolve_left fun z => z rfl
        · rw [decide_eq_false (show ¬ V.int m = V.int m2 from fun z => c (V.int.inj z))]
          exact iteF k
      · rw [decide_eq_true (show V.int m = V.int m from rfl)]
        refine iteT ?_
        refine ⟨_, rfl, a, kp K, dx, _, _, rfl, ha, T.cls, T.no_partners, rfl, _, rfl, b, kp K, dx2, _, _, rfl, ha2, T.cls, T.no_partners, rfl, ?_⟩
        have pl := p.length_eq
        unfold ct at pl
        rw [List.length_map, List.length_map] at pl
        exact .inl ⟨d, d2, _, _, rfl, rfl, .inl mt.1, .inl mt2.1, .inr ⟨by rw [List.length_map, List.length_map]; exact pl, perm_same mt mt2 rok p nd, k⟩⟩
      · rw [decide_eq_true (show V.int m = V.int m from rfl)]
        refine iteT ?_
        refine ⟨_, rfl, a, kp K, dx, _, _, rfl, ha, T.cls, T.no_partners, rfl, _, rfl, b, kp K, dx2, _, _, rfl, ha2, T.cls, T.no_partners, rfl, ?_⟩
        obtain ⟨t, all, bad⟩ := ct_dif (K := K) mt mt2 rok rok2 nd nd2 le np
        exact .inr ⟨d, d2, _, _, rfl, rfl, .inl mt.1, .inl mt2.1, by rw [List.length_map, List.length_map]; exact le, t, all, bad, k⟩
    · exact ⟨_, rfl, y, .ref (kp K), t, .ref (kp K), false, rfl, .own _, .base ty, kt, false, rfl, iteF k⟩
/-! texts -/
def spTxt (p : Spot) : Str := tupleText [toString p.1, reprText p.2]
def rowTxt (r : Row) : Str := spTxt r.1 ++ ": " ++ spTxt r.2.2
def rowsTxt (S : List Row) : Str := dictText (S.map rowTxt)
def planTxt (m : Int) (S : List Row) : Str := Str.empty ++ "Plan(" ++ toString m ++ ", " ++ rowsTxt S ++ ")"
theorem wd_small {z : Str} (h : Wd z) : ∀ c ∈ z.cps.toList, c < 16 ^ 8 := fun c hc => by
  have a : ∀ x ∈ letters.cps.toList, x < 16 ^ 8 := by decide +kernel
  exact a c (h.2.2 c hc)
theorem int_len {i : Int} (h1 : -1000 ≤ i) (h2 : i ≤ 1000) : (Str.length ((toString i : String) : Str)) ≤ 5 := by
  have h : i.natAbs < 10 ^ 4 := by show i.natAbs < 10000; omega
  have e := int_text_length_le10 (a := i) (k := 4) (by decide) h
  rw [ofString_length]
  omega
theorem lg_small {i : Int} (h1 : -1000 ≤ i) (h2 : i ≤ 1000) : i.natAbs.log2 < 1920 := by
  have h : i.natAbs < 2 ^ 10 := by show i.natAbs < 1024; omega
  rcases Nat.eq_zero_or_pos i.natAbs with z | z
  · rw [z]; decide
  · exact Nat.lt_trans ((Nat.log2_lt (by omega)).mpr h) (by decide)
theorem spTxt_len {p : Spot} (h1 : -1000 ≤ p.1) (h2 : p.1 ≤ 1000) (wd : Wd p.2) : (spTxt p).length ≤ 100 := by
  have h := PySem.tupleText_len_le [((toString p.1 : String) : Str), reprText p.2]
  have r := PySem.StrLaws.reprText_len p.2 (wd_small wd)
  have l := wd.len
  have i1 := int_len h1 h2
  have h' : (spTxt p).length ≤ ([(Str.length ((toString p.1 : String) : Str)), (reprText p.2).length]).sum + 2 * 2 + 3 := h
  simp only [List.sum_cons, List.sum_nil] at h'
  omega
theorem rowTxt_len {r : Row} (h : (0 ≤ r.1.1 ∧ r.1.1 < 1000) ∧ (-60 ≤ r.2.2.1 ∧ r.2.2.1 ≤ 60) ∧ Wd r.1.2 ∧ Wd r.2.2.2) : (rowTxt r).length ≤ 202 := by
  have a := spTxt_len (p := r.1) (by omega) (by omega) h.2.2.1
  have b := spTxt_len (p := r.2.2) (by omega) (by omega) h.2.2.2
  unfold rowTxt
  rw [strLen_append, strLen_append]
  have e : (Str.length (": " : Str)) = 2 := by decide +kernel
  omega
theorem rowsTxt_len {S : List Row} (h : ROk S) (l : S.length ≤ 80) : (rowsTxt S).length ≤ 20000 := by
  have z := dictText_len_le (S.map rowTxt)
  rw [List.map_map, List.length_map] at z
  have b : ∀ fs : List Row, ROk fs → (fs.map ((·.length) ∘ rowTxt)).sum ≤ 202 * fs.length := by
    intro fs
    induction fs with
    | nil => intro _; simp
    | cons f fs ih =>
      intro hf
      have h1 := rowTxt_len (hf f (List.mem_cons_self ..))
      have h2 := ih fun e he => hf e (List.mem_cons_of_mem _ he)
      simp only [List.map_cons, List.sum_cons, List.length_cons, Function.comp_apply] at *
      omega
  have := b S h
  unfold rowsTxt
  omega
theorem ent_txt {H : Hp} {d : Addr} {r : Row} (hd : ∀ xs, H d ≠ some (.tup xs)) (h : (0 ≤ r.1.1 ∧ r.1.1 < 1000) ∧ (-60 ≤ r.2.2.1 ∧ r.2.2.1 ≤ 60) ∧ Wd r.1.2 ∧ Wd r.2.2.2) (hu : H r.2.1 = some (.tup [.int r.2.2.1, .str r.2.2.2])) : EnT K H d (tk r.1, V.ref r.2.1) (rowTxt r) := by
  refine ⟨[toString r.1.1, reprText r.1.2], [r.2.1], spTxt r.2.2, .cons (.int _ (lg_small (by omega) (by omega))) (.cons (.str _) .nil), .tup hu (.cons (.int _ (lg_small (by omega) (by omega))) (.cons (.str _) .nil)) (by simp), by show 1 ≤ 10; decide, fun z => ?_, rfl⟩
  rw [List.mem_singleton] at z
  exact hd _ (z ▸ hu)
theorem ents_txt {H : Hp} {d : Addr} (hd : ∀ xs, H d ≠ some (.tup xs)) : ∀ {S : List Row}, ROk S → (∀ r ∈ S, H r.2.1 = some (.tup [.int r.2.2.1, .str r.2.2.2])) → Paired (EnT K H d) (S.map fun r => (tk r.1, V.ref r.2.1)) (S.map rowTxt)
  | [], _, _ => .nil
  | r :: S, ok, h => .cons (ent_txt hd (ok r (List.mem_cons_self ..)) (h r (List.mem_cons_self ..))) (ents_txt hd (fun q hq => ok q (List.mem_cons_of_mem _ hq)) fun q hq => h q (List.mem_cons_of_mem _ hq))
theorem MT.txt {H : Hp} {d : Addr} {S : List Row} (mt : MT H d S) (ok : ROk S) (l : S.length ≤ 80) : RdText K H (.ref d) (rowsTxt S) :=
  ⟨d, _, _, rfl, mt.1, ents_txt (fun xs z => by rw [mt.1] at z; cases z) ok mt.2, rfl, Nat.le_trans (rowsTxt_len ok l) (by decide +kernel)⟩
def spRep (K : PySem.W.Frag) : Sp := fun vs H Q _ => ∃ a m S, vs = [.ref a] ∧ PlanAt K H a m S ∧ 1 ≤ m ∧ m ≤ 500 ∧ ROk S ∧ S.length ≤ 80 ∧ Q (.str (planTxt m S)) H
theorem d_repr (T : Txt K mg) : MDf P w K mg base 1 (He.ma K (kp K) "__repr__") ["self"] (spRep K) := by
  refine T.M___repr__.by sc_Plan___repr (fun vs H Q E h => ?_) (fun f cdv A outer s H vs Q E hr hgd h => ?_)
  · obtain ⟨a, m, S, rfl, _⟩ := h; rfl
  · obtain ⟨a, m, S, rfl, ⟨dx, d, ha, hdx, mt⟩, m1, m5, ok, l, k⟩ := h
    refine ⟨_, (pss_one (ps_ret (pe_joined (.cons pe_str (.cons (pe_fmt (pe_fld (pv 0) rfl)) (.cons pe_str (.cons (pe_fmtDT hgd (un200 hr) (pe_fld (pv 0) rfl)) (.cons pe_str .nil)))))))), ?_⟩
    have lt := rowsTxt_len ok l
    have li := int_len (i := m) (by omega) (by omega)
    have le : (Str.empty : Str).length = 0 := rfl
    have l1 : (Str.length ("Plan(" : Str)) = 5 := by decide +kernel
    have l2 : (Str.length (", " : Str)) = 2 := by decide +kernel
    have l3 : (Str.length (")" : Str)) = 1 := by decide +kernel
    have big : 30000 ≤ sizeLine := by decide +kernel
    refine ⟨"Plan(", rfl, by rw [strLen_append]; omega, ?_⟩
    refine ⟨_, rfl, a, kp K, dx, _, _, rfl, ha, T.cls, T.no_period, rfl, .inr ⟨m, rfl, lg_small (by omega) (by omega), _, rfl, by rw [strLen_append, strLen_append]; omega, ?_⟩⟩
    refine ⟨", ", rfl, by rw [strLen_append, strLen_append, strLen_append]; omega, ?_⟩
    refine ⟨_, rfl, a, kp K, dx, _, _, rfl, ha, T.cls, T.no_partners, rfl, rowsTxt S, mt.txt ok l, _, rfl, by rw [strLen_append, strLen_append, strLen_append, strLen_append]; omega, ?_⟩
    refine ⟨")", rfl, by rw [strLen_append, strLen_append, strLen_append, strLen_append, strLen_append]; omega, ?_⟩
    exact k
end
end K63

set_option Elab.async false
set_option linter.all false
set_option maxRecDepth 100000
set_option maxHeartbeats 4000000
namespace K63
open PySem L2 Lay Own SrtO Tv Ow
/-! what a plan tells of each place -/
def ent (m : Int) (S : List Row) (p : Spot) : Option (Int × Str) := (S.find? fun r => decide (r.1 = (p.1 % m, p.2))).map fun r => r.2.2
structure Good (m : Int) (S : List Row) : Prop where
  m1 : 1 ≤ m
  m5 : m ≤ 500
  nd : (S.map (·.1)).Nodup
  at_ : ∀ r ∈ S, 0 ≤ r.1.1 ∧ r.1.1 < m ∧ Wd r.1.2
  go : ∀ r ∈ S, -60 ≤ r.2.2.1 ∧ r.2.2.1 ≤ 60 ∧ Wd r.2.2.2
theorem MOk.good {m : Int} {ns : List Str} {S : List Row} (ok : MOk m ns S) (nok : NsOk ns) (m1 : 1 ≤ m) (m5 : m ≤ 500) : Good m S :=
  ⟨m1, m5, ok.nd, fun r hr => ⟨(ok.at_ r hr).1, (ok.at_ r hr).2.1, nok.ok _ (ok.at_ r hr).2.2⟩, fun r hr => ⟨(ok.go r hr).1, (ok.go r hr).2.1, nok.ok _ (ok.go r hr).2.2⟩⟩
theorem Good.rok {m : Int} {S : List Row} (g : Good m S) : ROk S := fun r hr => by
  have a := g.at_ r hr
  have b := g.go r hr
  have m5 := g.m5
  exact ⟨⟨a.1, by omega⟩, ⟨b.1, b.2.1⟩, a.2.2, b.2.2⟩
theorem mate_ent (m : Int) (S : List Row) (p : Spot) : mate m S p = (ent m S p).map fun q => (p.1 + q.1, q.2) := by
  unfold mate ent
  rw [Option.map_map]
  rfl
theorem ent_some {m : Int} {S : List Row} (g : Good m S) {p : Spot} {q : Int × Str} : ent m S p = some q ↔ ∃ r ∈ S, r.1 = (p.1 % m, p.2) ∧ r.2.2 = q := by
  unfold ent
  constructor
  · intro h
    obtain ⟨r, h1, h2⟩ := Option.map_eq_some_iff.mp h
    obtain ⟨h3, h4⟩ := find_mem h1
    exact ⟨r, h3, h4, h2⟩
  · rintro ⟨r, hr, e, rfl⟩
    rw [← e, mem_find g.nd hr]
    rfl
theorem ct_mem {m : Int} {S : List Row} (g : Good m S) {k : Spot} {q : Int × Str} : (k, q) ∈ ct S ↔ (0 ≤ k.1 ∧ k.1 < m) ∧ ent m S k = some q := by
  unfold ct
  rw [List.mem_map]
  constructor
  · rintro ⟨r, hr, e⟩
    cases e
    have a := g.at_ r hr
    refine ⟨⟨a.1, a.2.1⟩, (ent_some g).mpr ⟨r, hr, ?_, rfl⟩⟩
    rw [Int.emod_eq_of_lt a.1 a.2.1]
  · rintro ⟨⟨k0, k1⟩, h⟩
    obtain ⟨r, hr, e, rfl⟩ := (ent_some g).mp h
    rw [Int.emod_eq_of_lt k0 k1] at e
    exact ⟨r, hr, by rw [e]⟩
theorem ct_nd {m : Int} {S : List Row} (g : Good m S) : (ct S).Nodup := by
  have h := g.nd
  rw [← ct_keys] at h
  exact List.Pairwise.imp (fun {a b} h e => h (congrArg _ e)) (List.pairwise_map.mp h)
theorem ct_perm {m : Int} {S S2 : List Row} (g : Good m S) (g2 : Good m S2) (h : ∀ p, ent m S p = ent m S2 p) : (ct S).Perm (ct S2) := by
  refine (List.perm_ext_iff_of_nodup (ct_nd g) (ct_nd g2)).mpr fun kq => ?_
  obtain ⟨k, q⟩ := kq
  rw [ct_mem g, ct_mem g2, h]
theorem ent_per (m : Int) (S : List Row) (i j : Int) (n : Str) (h : i % m = j % m) : ent m S (i, n) = ent m S (j, n) := by
  unfold ent
  rw [h]
theorem ent_map {m m2 : Int} {S S2 : List Row} (g : Good m S) (g2 : Good m2 S2) (u : Spot → Spot) (v : Int × Str → Int × Str) (h : ∀ p q, (∃ r ∈ S2, r.1 = (p.1 % m2, p.2) ∧ r.2.2 = q) ↔ ∃ r ∈ S, r.1 = ((u p).1 % m, (u p).2) ∧ v r.2.2 = q) (p : Spot) : ent m2 S2 p = (ent m S (u p)).map v := by
  refine Option.ext fun q => ?_
  rw [ent_some g2, h, Option.map_eq_some_iff]
  constructor
  · rintro ⟨r, hr, e, rfl⟩
    exact ⟨r.2.2, (ent_some g).mpr ⟨r, hr, e, rfl⟩, rfl⟩
  · rintro ⟨z, hz, rfl⟩
    obtain ⟨r, hr, e, rfl⟩ := (ent_some g).mp hz
    exact ⟨r, hr, e, rfl⟩
theorem find_nil (m : Int) (p : Spot) : ent m [] p = none := rfl
/-! shifted rows -/
def shR (m s : Int) (r : Row) : Row := (((r.1.1 + s) % m, r.1.2), r.2)
theorem sh_back {m s a i : Int} (a0 : 0 ≤ a) (a1 : a < m) : (a + s) % m = i % m ↔ a = (i - s) % m := by
  have e1 : a % m = a := Int.emod_eq_of_lt a0 a1
  constructor
  · intro h
    have z : (a + s - s) % m = (i - s) % m := by rw [Int.sub_emod, h, ← Int.sub_emod]
    rw [← z, Int.add_sub_cancel, e1]
  · intro h
    rw [h, Int.emod_add_emod, Int.sub_add_cancel]
theorem sh_good {m s : Int} {S L : List Row} (g : Good m S) (p : L.Perm S) : Good m (L.map (shR m s)) := by
  have m1 := g.m1
  refine ⟨g.m1, g.m5, ?_, fun r hr => ?_, fun r hr => ?_⟩
  · have nd : (L.map (·.1)).Nodup := (p.map _).nodup_iff.mpr g.nd
    rw [List.map_map]
    refine List.pairwise_map.mpr (List.Pairwise.imp_of_mem (fun {a b} ha hb ne e => ne ?_) (List.pairwise_map.mp nd))
    have ra := g.at_ a (p.mem_iff.mp ha)
    have rb := g.at_ b (p.mem_iff.mp hb)
    have e1 : (a.1.1 + s) % m = (b.1.1 + s) % m := congrArg (fun z : Spot => z.1) e
    have e2 : a.1.2 = b.1.2 := (Prod.mk.inj (show (((a.1.1 + s) % m, a.1.2) : Spot) = ((b.1.1 + s) % m, b.1.2) from e)).2
    have h := (sh_back (s := s) (i := b.1.1 + s) ra.1 ra.2.1).mp e1
    rw [Int.add_sub_cancel, Int.emod_eq_of_lt rb.1 rb.2.1] at h
    exact Prod.ext h e2
  · obtain ⟨q, hq, rfl⟩ := List.mem_map.mp hr
    exact ⟨Int.emod_nonneg _ (by omega), Int.emod_lt_of_pos _ (by omega), (g.at_ q (p.mem_iff.mp hq)).2.2⟩
  · obtain ⟨q, hq, rfl⟩ := List.mem_map.mp hr
    exact g.go q (p.mem_iff.mp hq)
theorem sh_ent {m s : Int} {S L : List Row} (g : Good m S) (p : L.Perm S) (x : Spot) : ent m (L.map (shR m s)) x = ent m S (x.1 - s, x.2) := by
  have z := ent_map g (sh_good (s := s) g p) (fun x => (x.1 - s, x.2)) id (fun x q => ?_) x
  · rw [z, Option.map_id]; rfl
  · constructor
    · rintro ⟨r, hr, e, rfl⟩
      obtain ⟨y, hy, rfl⟩ := List.mem_map.mp hr
      have hS := p.mem_iff.mp hy
      have a := g.at_ y hS
      obtain ⟨e1, e2⟩ := Prod.mk.inj (show (((y.1.1 + s) % m, y.1.2) : Spot) = (x.1 % m, x.2) from e)
      exact ⟨y, hS, Prod.ext ((sh_back a.1 a.2.1).mp e1) e2, rfl⟩
    · rintro ⟨y, hy, e, rfl⟩
      have a := g.at_ y hy
      have e1 : y.1.1 = (x.1 - s) % m := congrArg Prod.fst e
      have e2 : y.1.2 = x.2 := (Prod.mk.inj (show ((y.1.1, y.1.2) : Spot) = ((x.1 - s) % m, x.2) from e)).2
      exact ⟨shR m s y, List.mem_map.mpr ⟨y, p.mem_iff.mpr hy, rfl⟩, Prod.ext ((sh_back a.1 a.2.1).mpr e1) e2, rfl⟩
/-! mirrored rows: the tuples lie at other places -/
def mir (q : Int × Str) : Int × Str := (-q.1, q.2)
theorem neg_back {m a i : Int} (m1 : 1 ≤ m) (a0 : 0 ≤ a) (a1 : a < m) : (-a) % m = i % m ↔ a = (-i) % m := by
  have e1 : a % m = a := Int.emod_eq_of_lt a0 a1
  constructor
  · intro h
    have z : (0 - (-a)) % m = (0 - i) % m := by rw [Int.sub_emod, h, ← Int.sub_emod]
    rw [show (0 - (-a)) = a by omega, show (0 - i) = -i by omega, e1] at z
    exact z
  · intro h
    have z : (0 - a) % m = (0 - (-i)) % m := by rw [h, Int.sub_emod, Int.emod_emod, ← Int.sub_emod]
    rw [show (0 - a) = -a by omega, show (0 - -i) = i by omega] at z
    exact z
end K63

set_option Elab.async false
set_option linter.all false
set_option maxRecDepth 100000
set_option maxHeartbeats 4000000
namespace K63
open PySem L2 Lay Own SrtO Tv Ow
local macro_rules | `(tactic| walk_at "ne") => `(tactic| first | assumption | (apply Ne.symm; assumption) | exact ne_of_none (by walk_at "look") (by assumption) | exact (ne_of_none (by walk_at "look") (by assumption)).symm)
local macro_rules | `(tactic| walk_at "look") => `(tactic| first | assumption | exact upd_same | (refine Eq.trans (upd_ne ?_) ?_; walk_at "ne"; walk_at "look"))
local macro_rules | `(tactic| walk_at "rds") => `(tactic| first | rfl | assumption | walk_at "look" | exact SqL.of (by walk_at "look") | exact SqT.of (by walk_at "look") | exact Or.inl (SqL.of (by walk_at "look")) | exact Or.inl (by assumption) | decide | omega | exact Nat.le_of_ble_eq_true rfl | exact Or.inr ⟨by decide, by decide⟩ | exact Or.inl ⟨by omega, by omega⟩ | exact ⟨by decide, by decide⟩)
local macro_rules | `(tactic| walk_at "rd1") => `(tactic| first | (apply Exists.intro) | (refine And.intro ?_ ?_; walk_at "rds") | (refine Or.inl ?_; apply Exists.intro; refine And.intro ?_ ?_; rfl))
local macro_rules | `(tactic| walk_at "rd") => `(tactic| repeat walk_at "rd1")
def pvD : Option Spot → PyData
  | none => .none
  | some s => spD s
theorem PV.dp {H : Hp} {o : Option Spot} {v : V} (h : PV H o v) : Dp K H v (pvD o) := by
  cases o with
  | none => cases (show v = .non from h); exact .non
  | some s => obtain ⟨u, rfl, hu⟩ := h; exact dp_spot hu
theorem PV.same {H H' : Hp} {o : Option Spot} {v : V} (h : PV H o v) (s : L2.Same H H') : PV H' o v := by
  cases o with
  | none => exact h
  | some p => obtain ⟨u, e, hu⟩ := h; exact ⟨u, e, s _ _ hu⟩
theorem pvD_sh {o : Option Spot} (h : ∀ s, o = some s → Wd s.2) : SeqAt.shaped (pvD o) = true := by
  cases o with
  | none => rfl
  | some s => exact spD_sh (h s rfl).ok
theorem pvD_same (o : Option Spot) : PyData.eqv (pvD o) (pvD o) = true := by
  cases o with
  | none => simp [pvD, PyData.eqv]
  | some s =>
    have z := spD_ne (p := s) (q := s)
    rw [decide_eq_false (fun h => h rfl)] at z
    show PyData.eqv (spD s) (spD s) = true
    simpa using z
theorem seq_cut {A R : TS} {D : Ends} {σ : L2.St} {H : Hp} (Pm : L2.St → Hp → Prop) (main : ∀ σ' H', Pm σ' H' → R D σ' H') (h : (∀ σ' H', Pm σ' H' → R D σ' H') → tSeq A R D σ H) : tSeq A R D σ H := h main
theorem take_new {α β : Type} (f : α → β) {l : List α} (nd : (l.map f).Nodup) {j : Nat} {a : α} (h : l[j]? = some a) : ∀ q ∈ l.take j, f q ≠ f a := by
  intro q hq e
  obtain ⟨n, hn⟩ := List.mem_iff_getElem?.mp hq
  rw [List.getElem?_take] at hn
  by_cases c : n < j
  · rw [if_pos c] at hn
    obtain ⟨h1, h2⟩ := List.getElem?_eq_some_iff.mp hn
    obtain ⟨h3, h4⟩ := List.getElem?_eq_some_iff.mp h
    refine List.pairwise_iff_getElem.mp nd n j (by rw [List.length_map]; exact h1) (by rw [List.length_map]; exact h3) c ?_
    rw [List.getElem_map, List.getElem_map, h2, h4, e]
  · rw [if_neg c] at hn
    cases hn
theorem fil_some {α : Type} (p : α → Bool) (l : List α) : l.filterMap (fun q => if p q = true then some q else none) = l.filter p := by
  induction l with
  | nil => rfl
  | cons a l ih =>
    rw [List.filterMap_cons, List.filter_cons]
    by_cases c : p a = true
    · simp only [c, if_true]
      rw [ih]
    · simp only [c, if_false]
      rw [ih]
      rfl
section
variable {P : Program} {w : World} {K : PySem.W.Frag} {mg : Str → Option Value} {base : Heap}
theorem eqv_pv (o : Option (Int × Str)) (q : Int × Str) : PyData.eqv (pvD o) (spD q) = decide (o = some q) := by
  cases o with
  | none =>
    rw [decide_eq_false (fun z => nomatch z)]
    simp [pvD, spD, PyData.eqv]
  | some p =>
    have z := spD_ne (p := p) (q := q)
    by_cases c : p = q
    · rw [decide_eq_true (by rw [c])]
      rw [decide_eq_false (fun h => h c)] at z
      show PyData.eqv (spD p) (spD q) = true
      simpa using z
    · rw [decide_eq_false (fun h => c (Option.some.inj h))]
      rw [decide_eq_true c] at z
      show PyData.eqv (spD p) (spD q) = false
      simpa using z
/-- entries come again k places on -/
def ca (m : Int) (S : List Row) (k : Int) : Bool := S.all fun r => decide (ent m S (r.1.1 + k, r.1.2) = some r.2.2)
def spCA : Sp := fun vs H Q _ => ∃ d m k S, vs = [.ref d, .int m, .int k] ∧ MT H d S ∧ Good m S ∧ ∀ H', L2.Same H H' → Q (.bl (ca m S k)) H'
theorem d_comes (T : Txt K mg) : Df P w K mg base 1 "comes_again" ["partners", "period", "step"] spCA := by
  refine T.S_comes_again.by sc_comes_again (fun vs H Q E h => ?_) (fun f cdv A outer s H vs Q E hr hgd h => ?_)
  · obtain ⟨d, m, k, S, rfl, _⟩ := h; rfl
  · obtain ⟨d, m, st, S, rfl, mt, g, k⟩ := h
    refine ⟨_, (pss_cons (ps_lock (ps_for PassesOwn.never rfl  (pi_itemsT (pv 0)) (pg_tup rfl (pgs_cons (pg_tup rfl (pgs_cons (pg_name (i := 3) sc_comes_again.nd rfl (by first | exact Or.inl rfl | exact Or.inr rfl)) (pgs_cons (pg_name (i := 4) sc_comes_again.nd rfl (by first | exact Or.inl rfl | exact Or.inr rfl)) pgs_nil))) (pgs_cons (pg_name (i := 5) sc_comes_again.nd rfl (by first | exact Or.inl rfl | exact Or.inr rfl)) pgs_nil))) (pss_one (ps_if (pt_cmpR (op_neD (un64 hr)) (pe_dget1 (hu_of hr) (pv 0) (pe_tup (pa_cons (pe_op op_mod (pe_op op_add (pv 3) (pv 2)) (pv 1)) (pa_cons (pv 4) pa_nil))) ⟨rfl, rfl, rfl, rfl⟩) (pv 5) (nomark _)) (pss_one (ps_ret pe_bl)) pss_nil))))
      (pss_one (ps_ret pe_bl))), ?_⟩
    have m1 := g.m1
    refine ⟨d, .dT _, mt.1, trivial, fun od => ?_⟩
    have fz : (upd H d (.frz od (.dT (S.map fun r => (tk r.1, V.ref r.2.1))))) d = some (.frz od (.dT (S.map fun r => (tk r.1, V.ref r.2.1)))) := upd_same
    have fr_ : ∀ r ∈ S, (upd H d (.frz od (.dT (S.map fun r => (tk r.1, V.ref r.2.1))))) r.2.1 = some (.tup [.int r.2.2.1, .str r.2.2.2]) := fun r hr => (upd_ne fun z => by
      have h := mt.2 r hr
      rw [z, mt.1] at h
      cases h).trans (mt.2 r hr)
    have unl : ∀ {G2 : Hp}, L2.Same (upd H d (.frz od (.dT (S.map fun r => (tk r.1, V.ref r.2.1))))) G2 → L2.Same H (upd G2 d (.dT (S.map fun r => (tk r.1, V.ref r.2.1)))) := fun s => lock_same mt.1 s
    generalize upd H d (.frz od (.dT (S.map fun r => (tk r.1, V.ref r.2.1)))) = F at fz fr_ unl ⊢
    refine ⟨_, rfl, d, od, _, rfl, fz, ?_⟩
    refine for_it walk_itemsT (fun n σ G2 => ∃ s3 s4 s5 : Option V, σ = [some (.ref d), some (.int m), some (.int st), s3, s4, s5] ∧ L2.Same F G2 ∧ ∀ r ∈ S.take n, ent m S (r.1.1 + st, r.1.2) = some r.2.2)
      ⟨_, _, _, rfl, Same.refl _, fun r hr => (nomatch hr)⟩ (fun n σ G2 _ q => by obtain ⟨_, _, _, _, s, _⟩ := q; exact s _ _ fz) (fun n x σ G2 G3 hn hP y => ?_) (fun σ G2 hP => ?_)
    · obtain ⟨s3, s4, s5, rfl, sG, al⟩ := hP
      obtain ⟨tt, q, kk, vv, hkv, rfl, nT, rfl, hq⟩ := y
      rw [List.length_map] at hn
      have hsi : S[n]? = some S[n] := List.getElem?_eq_getElem hn
      rw [List.getElem?_map, hsi] at hkv
      cases hkv
      have tkn : S.take (n + 1) = S.take n ++ [S[n]] := by rw [List.take_add_one, hsi]; rfl
      have hr_ : S[n] ∈ S := List.getElem_mem hn
      generalize S[n] = r at hsi hr_ tkn hq nT
      have s6 := Same.new (o := .tup [.ref q, .ref r.2.1]) nT
      have hT := (upd_same : (upd G2 tt (.tup [.ref q, .ref r.2.1])) tt = _)
      have hq6 := s6 _ _ hq
      have sG3 := sG.trans s6
      generalize upd G2 tt (.tup [.ref q, .ref r.2.1]) = G3 at hT hq6 sG3 ⊢
      refine ⟨tt, _, rfl, SqT.of hT, rfl, _, _, rfl, q, _, rfl, SqT.of hq6, rfl, _, _, rfl, _, _, rfl, rfl, _, _, rfl, rfl, ?_⟩
      refine ⟨_, rfl, d, rfl, .inr ⟨_, .inr ⟨od, sG3 _ _ fz⟩⟩, _, rfl, _, rfl, r.1.1, st, rfl, rfl, _, rfl, r.1.1 + st, m, rfl, rfl, by omega, _, rfl, by show (2 : Nat) ≤ sizeLine; decide +kernel, fun u nu => ?_⟩
      have s7 := Same.new (o := .tup [V.int ((r.1.1 + st) % m), V.str r.1.2]) nu
      have sG4 := sG3.trans s7
      refine ⟨_, .inr ⟨_, tk ((r.1.1 + st) % m, r.1.2), u, .inr ⟨od, sG4 _ _ fz⟩, rfl, upd_same, rfl⟩, ?_⟩
      rw [valV_tk]
      have dpv : Dp K (upd G3 u (.tup [V.int ((r.1.1 + st) % m), V.str r.1.2])) (((S.find? fun q => decide (q.1 = ((r.1.1 + st) % m, r.1.2))).map fun q => V.ref q.2.1).getD .non) (pvD (ent m S (r.1.1 + st, r.1.2))) := by
        have e : ent m S (r.1.1 + st, r.1.2) = (S.find? fun q => decide (q.1 = ((r.1.1 + st) % m, r.1.2))).map fun q => q.2.2 := rfl
        rw [e]
        cases hf : S.find? fun q => decide (q.1 = ((r.1.1 + st) % m, r.1.2)) with
        | none => exact .non
        | some z => exact dp_spot (sG4 _ _ (fr_ z (List.mem_of_find?_eq_some hf)))
      have sh1 : SeqAt.shaped (pvD (ent m S (r.1.1 + st, r.1.2))) = true := pvD_sh fun s e => by
        obtain ⟨z, hz, _, rfl⟩ := (ent_some g).mp e
        exact (g.go z hz).2.2
      have sh2 : SeqAt.shaped (spD r.2.2) = true := spD_sh (g.go r hr_).2.2.ok
      refine ⟨_, rfl, _, spD r.2.2, dpv, dp_spot (sG4 _ _ (fr_ r hr_)), sh1, sh2, ?_⟩
      rw [eqv_pv]
      by_cases c : ent m S (r.1.1 + st, r.1.2) = some r.2.2
      · rw [decide_eq_true c]
        refine ⟨false, rfl, iteF ?_⟩
        refine ⟨_, _, _, rfl, sG4, fun z hz => ?_⟩
        rw [tkn] at hz
        rcases List.mem_append.mp hz with hz | hz
        · exact al z hz
        · rw [List.mem_singleton.mp hz]; exact c
      · rw [decide_eq_false c]
        refine ⟨true, rfl, iteT ?_⟩
        refine ⟨sG4 _ _ fz, ?_⟩
        have e : ca m S st = false := by
          unfold ca
          rw [List.all_eq_false]
          exact ⟨r, hr_, by rw [decide_eq_false c]; decide⟩
        have z := k _ (unl sG4)
        rw [e] at z
        exact z
    · obtain ⟨s3, s4, s5, rfl, sG, al⟩ := hP
      rw [List.length_map, List.take_length] at al
      refine ⟨sG _ _ fz, ?_⟩
      have e : ca m S st = true := List.all_eq_true.mpr fun r hr => decide_eq_true (al r hr)
      have z := k _ (unl sG)
      rw [e] at z
      exact z
end
end K63

set_option Elab.async false
set_option linter.all false
set_option maxRecDepth 100000
set_option maxHeartbeats 4000000
namespace K63
open PySem L2 Lay Own SrtO Tv Ow
local macro_rules | `(tactic| walk_at "ne") => `(tactic| first | assumption | (apply Ne.symm; assumption) | exact ne_of_none (by walk_at "look") (by assumption) | exact (ne_of_none (by walk_at "look") (by assumption)).symm)
local macro_rules | `(tactic| walk_at "look") => `(tactic| first | assumption | exact upd_same | (refine Eq.trans (upd_ne ?_) ?_; walk_at "ne"; walk_at "look"))
local macro_rules | `(tactic| walk_at "rds") => `(tactic| first | rfl | assumption | walk_at "look" | exact SqL.of (by walk_at "look") | exact SqT.of (by walk_at "look") | exact Or.inl (SqL.of (by walk_at "look")) | exact Or.inl (by assumption) | decide | omega | exact Nat.le_of_ble_eq_true rfl | exact Or.inr ⟨by decide, by decide⟩ | exact Or.inl ⟨by omega, by omega⟩ | exact ⟨by decide, by decide⟩)
local macro_rules | `(tactic| walk_at "rd1") => `(tactic| first | (apply Exists.intro) | (refine And.intro ?_ ?_; walk_at "rds") | (refine Or.inl ?_; apply Exists.intro; refine And.intro ?_ ?_; rfl))
local macro_rules | `(tactic| walk_at "rd") => `(tactic| repeat walk_at "rd1")
section
variable {P : Program} {w : World} {K : PySem.W.Frag} {mg : Str → Option Value} {base : Heap}
/-- a step with which entries come again -/
def okS (m : Int) (S : List Row) (j : Int) : Bool := decide (m % j = 0) && ca m S j
theorem ca_per {m : Int} {S : List Row} (g : Good m S) : ca m S m = true := List.all_eq_true.mpr fun r hr => decide_eq_true (by
  rw [ent_per m S (r.1.1 + m) r.1.1 r.1.2 (by rw [Int.add_emod, Int.emod_self, Int.add_zero, Int.emod_emod])]
  have a := g.at_ r hr
  exact (ent_some g).mpr ⟨r, hr, by rw [Int.emod_eq_of_lt a.1 a.2.1], rfl⟩)
theorem ok_per {m : Int} {S : List Row} (g : Good m S) : okS m S m = true := by
  unfold okS
  rw [ca_per g, Int.emod_self]
  rfl
/-- the least one -/
def Least (m : Int) (S : List Row) (k : Int) : Prop := 1 ≤ k ∧ k ≤ m ∧ okS m S k = true ∧ ∀ j, 1 ≤ j → j < k → okS m S j = false
theorem Least.one {m k l : Int} {S : List Row} (h : Least m S k) (h2 : Least m S l) : k = l := by
  obtain ⟨a1, a2, a3, a4⟩ := h
  obtain ⟨b1, b2, b3, b4⟩ := h2
  rcases Int.lt_trichotomy k l with c | c | c
  · have z := b4 k a1 c
    rw [a3] at z
    cases z
  · exact c
  · have z := a4 l b1 c
    rw [b3] at z
    cases z
def spLS : Sp := fun vs H Q _ => ∃ d m S, vs = [.ref d, .int m] ∧ MT H d S ∧ Good m S ∧ ∀ k H', L2.Same H H' → Least m S k → Q (.int k) H'
theorem d_least (T : Txt K mg) : Df P w K mg base 2 "least_step" ["partners", "period"] spLS := by
  have D_comes_again := d_comes (P := P) (w := w) (base := base) T
  refine T.S_least_step.by sc_least_step (fun vs H Q E h => ?_) (fun f cdv A outer s H vs Q E hr hgd h => ?_)
  · obtain ⟨d, m, S, rfl, _⟩ := h; rfl
  · obtain ⟨d, m, S, rfl, mt, g, k⟩ := h
    refine ⟨_, (pss_cons (ps_set (i := 2) sc_least_step.nd rfl (by first | exact Or.inl rfl | exact Or.inr rfl) pe_int)
      (pss_cons (ps_while PassesOwn.never (PW.pt (pw_or (pt_cmpR op_ne (pe_op op_mod (pv 1) (pv 2)) pe_int (nomark _)) (pw_or1 (pt_not (pt_val (pe_own D_comes_again (hr.mono (by first | decide | omega)) hgd (pa_cons (pv 0) (pa_cons (pv 1) (pa_cons (pv 2) pa_nil))))))))) (pss_one (ps_aug (i := 2) sc_least_step.nd rfl (by first | exact Or.inl rfl | exact Or.inr rfl) pe_int ip_add)))
      (pss_one (ps_ret (pv 2))))), ?_⟩
    have m1 := g.m1
    have m5 := g.m5
    refine ⟨fun n σ G => ∃ t : Int, σ = [some (.ref d), some (.int m), some (.int t)] ∧ L2.Same H G ∧ 1 ≤ t ∧ t ≤ m ∧ (n : Int) = m - t ∧ ∀ j, 1 ≤ j → j < t → okS m S j = false, ⟨(m - 1).toNat, 1, rfl, Same.refl _, by omega, by omega, by omega, fun j h1 h2 => by omega⟩, fun n σ G hW => ?_⟩
    obtain ⟨t, rfl, sG, t1, tm, en, al⟩ := hW
    have nx : okS m S t = false → ∀ j, 1 ≤ j → j < t + 1 → okS m S j = false := fun no j h1 h2 => by
      by_cases c : j < t
      · exact al j h1 c
      · rw [show j = t by omega]; exact no
    have lt : okS m S t = false → t < m := fun no => by
      by_cases c : t = m
      · rw [c, ok_per g] at no
        cases no
      · omega
    by_cases c : m % t = 0
    · refine ⟨_, rfl, _, rfl, m, t, rfl, rfl, by omega, rfl, false, ?_, iteF ?_⟩
      · show V.bl (!decide (V.int (m % t) = V.int 0)) = V.bl false
        rw [c, decide_eq_true rfl]
        rfl
      refine ⟨_, rfl, _, rfl, _, rfl, d, m, t, S, rfl, mt.same sG, g, fun G2 s2 => ⟨_, rfl, ?_⟩⟩
      cases hc : ca m S t with
      | false =>
        have no : okS m S t = false := by
          unfold okS
          rw [hc, Bool.and_false]
        have ltm := lt no
        refine ⟨fun σ' H' => σ' = [some (.ref d), some (.int m), some (.int (t + 1))] ∧ L2.Same H H', fun σ' H' q => ?_, _, rfl, t, 1, rfl, rfl, rfl, sG.trans s2⟩
        obtain ⟨rfl, s'⟩ := q
        exact ⟨n - 1, by omega, t + 1, rfl, s', by omega, by omega, by omega, nx no⟩
      | true =>
        have yes : okS m S t = true := by
          unfold okS
          rw [hc, decide_eq_true c]
          rfl
        exact ⟨_, rfl, k t _ (sG.trans s2) ⟨t1, tm, yes, al⟩⟩
    · refine ⟨_, rfl, _, rfl, m, t, rfl, rfl, by omega, rfl, true, ?_, iteT ?_⟩
      · show V.bl (!decide (V.int (m % t) = V.int 0)) = V.bl true
        rw [decide_eq_false (fun z => c (V.int.inj z))]
        rfl
      have no : okS m S t = false := by
        unfold okS
        rw [decide_eq_false c, Bool.false_and]
      have ltm := lt no
      refine ⟨fun σ' H' => σ' = [some (.ref d), some (.int m), some (.int (t + 1))] ∧ L2.Same H H', fun σ' H' q => ?_, _, rfl, t, 1, rfl, rfl, rfl, sG⟩
      obtain ⟨rfl, s'⟩ := q
      exact ⟨n - 1, by omega, t + 1, rfl, s', by omega, by omega, by omega, nx no⟩
end
end K63

set_option Elab.async false
set_option linter.all false
set_option maxRecDepth 100000
set_option maxHeartbeats 4000000
namespace K63
open PySem L2 Lay Own SrtO Tv Ow
/-! entries that come again -/
theorem again {m k : Int} {S : List Row} (g : Good m S) (h : ca m S k = true) {i : Int} {n : Str} {q : Int × Str} (e : ent m S (i, n) = some q) : ent m S (i + k, n) = some q := by
  obtain ⟨r, hr, e1, rfl⟩ := (ent_some g).mp e
  have z := of_decide_eq_true (List.all_eq_true.mp h r hr)
  rw [e1] at z
  rw [← z]
  exact ent_per m S _ _ n (by show (i + k) % m = (i % m + k) % m; rw [Int.emod_add_emod])
theorem agains {m k : Int} {S : List Row} (g : Good m S) (h : ca m S k = true) {i : Int} {n : Str} {q : Int × Str} (e : ent m S (i, n) = some q) : ∀ t : Nat, ent m S (i + k * t, n) = some q
  | 0 => by
    rw [show i + k * ((0 : Nat) : Int) = i by simp]
    exact e
  | t + 1 => by
    have z := again g h (agains g h e t)
    rw [show i + k * ((t + 1 : Nat) : Int) = i + k * (t : Int) + k by rw [Int.natCast_succ, Int.mul_add, Int.mul_one]; omega]
    exact z
theorem again_iff {m k : Int} {S : List Row} (g : Good m S) (k1 : 1 ≤ k) (kd : m % k = 0) (h : ca m S k = true) (i : Int) (n : Str) : ent m S (i + k, n) = ent m S (i, n) := by
  have m1 := g.m1
  have dv : k * (m / k) = m := by have := Int.emod_add_mul_ediv m k; omega
  have q0 : 1 ≤ m / k := by
    rcases Int.lt_or_le (m / k) 1 with c | c
    · have := Int.mul_le_mul_of_nonneg_left (show m / k ≤ 0 by omega) (show 0 ≤ k by omega)
      omega
    · exact c
  refine Option.ext fun q => ⟨fun e => ?_, fun e => again g h e⟩
  have z := agains g h e (m / k - 1).toNat
  rw [← z]
  refine ent_per m S _ _ n ?_
  have e1 : (((m / k - 1).toNat : Nat) : Int) = m / k - 1 := Int.toNat_of_nonneg (by omega)
  rw [e1, Int.mul_sub, Int.mul_one, dv, show i + k + (m - k) = i + m by omega, Int.add_emod, Int.emod_self, Int.add_zero, Int.emod_emod]
theorem again_mul {m k : Int} {S : List Row} (g : Good m S) (k1 : 1 ≤ k) (kd : m % k = 0) (h : ca m S k = true) (i : Int) (n : Str) : ∀ t : Nat, ent m S (i + k * t, n) = ent m S (i, n)
  | 0 => by rw [show i + k * ((0 : Nat) : Int) = i by simp]
  | t + 1 => by
    rw [show i + k * ((t + 1 : Nat) : Int) = i + k * (t : Int) + k by rw [Int.natCast_succ, Int.mul_add, Int.mul_one]; omega, again_iff g k1 kd h]
    exact again_mul g k1 kd h i n t
theorem again_mod {m k : Int} {S : List Row} (g : Good m S) (k1 : 1 ≤ k) (kd : m % k = 0) (h : ca m S k = true) (i j : Int) (n : Str) (e : i % k = j % k) : ent m S (i, n) = ent m S (j, n) := by
  have one : ∀ a b : Int, a % k = b % k → a ≤ b → ent m S (b, n) = ent m S (a, n) := fun a b e ab => by
    have d1 := Int.emod_add_mul_ediv a k
    have d2 := Int.emod_add_mul_ediv b k
    have le : 0 ≤ b / k - a / k := by
      have := Int.ediv_le_ediv (show 0 < k by omega) ab
      omega
    have z := again_mul g k1 kd h a n (b / k - a / k).toNat
    rw [Int.toNat_of_nonneg le, Int.mul_sub] at z
    rw [← z]
    congr 2
    omega
  rcases Int.le_total i j with c | c
  · exact (one i j e c).symm
  · exact one j i e.symm c
/-! the rows of the least period -/
def redS (k : Int) (S : List Row) : List Row := S.filter fun r => decide (r.1.1 < k)
theorem red_good {m k : Int} {S : List Row} (g : Good m S) (k1 : 1 ≤ k) (km : k ≤ m) : Good k (redS k S) := by
  have m5 := g.m5
  refine ⟨k1, by omega, ?_, fun r hr => ?_, fun r hr => g.go r (List.mem_filter.mp hr).1⟩
  · exact List.pairwise_map.mpr (List.Pairwise.filter _ (List.pairwise_map.mp g.nd))
  · obtain ⟨h1, h2⟩ := List.mem_filter.mp hr
    have a := g.at_ r h1
    exact ⟨a.1, of_decide_eq_true h2, a.2.2⟩
theorem red_ent {m k : Int} {S : List Row} (g : Good m S) (k1 : 1 ≤ k) (km : k ≤ m) (kd : m % k = 0) (h : ca m S k = true) (x : Spot) : ent k (redS k S) x = ent m S x := by
  have g2 := red_good g k1 km
  have c0 := Int.emod_nonneg x.1 (show k ≠ 0 by omega)
  have c1 := Int.emod_lt_of_pos x.1 (show 0 < k by omega)
  have e0 : ent m S x = ent m S (x.1 % k, x.2) := again_mod g k1 kd h x.1 (x.1 % k) x.2 (by rw [Int.emod_emod])
  rw [e0]
  refine Option.ext fun q => ?_
  rw [ent_some g2, ent_some g]
  have md : x.1 % k % m = x.1 % k := Int.emod_eq_of_lt c0 (by omega)
  constructor
  · rintro ⟨r, hr, e, rfl⟩
    exact ⟨r, (List.mem_filter.mp hr).1, by rw [e]; exact Prod.ext md.symm rfl, rfl⟩
  · rintro ⟨r, hr, e, rfl⟩
    have e : r.1 = (x.1 % k % m, x.2) := e
    rw [md] at e
    exact ⟨r, List.mem_filter.mpr ⟨hr, decide_eq_true (by rw [e]; exact c1)⟩, e, rfl⟩
end K63

set_option Elab.async false
set_option linter.all false
set_option maxRecDepth 100000
set_option maxHeartbeats 4000000
namespace K63
open PySem L2 Lay Own SrtO Tv Ow
local macro_rules | `(tactic| walk_at "ne") => `(tactic| first | assumption | (apply Ne.symm; assumption) | exact ne_of_none (by walk_at "look") (by assumption) | exact (ne_of_none (by walk_at "look") (by assumption)).symm)
local macro_rules | `(tactic| walk_at "look") => `(tactic| first | assumption | exact upd_same | (refine Eq.trans (upd_ne ?_) ?_; walk_at "ne"; walk_at "look"))
local macro_rules | `(tactic| walk_at "rds") => `(tactic| first | rfl | assumption | walk_at "look" | exact SqL.of (by walk_at "look") | exact SqT.of (by walk_at "look") | exact Or.inl (SqL.of (by walk_at "look")) | exact Or.inl (by assumption) | decide | omega | exact Nat.le_of_ble_eq_true rfl | exact Or.inr ⟨by decide, by decide⟩ | exact Or.inl ⟨by omega, by omega⟩ | exact ⟨by decide, by decide⟩)
local macro_rules | `(tactic| walk_at "rd1") => `(tactic| first | (apply Exists.intro) | (refine And.intro ?_ ?_; walk_at "rds") | (refine Or.inl ?_; apply Exists.intro; refine And.intro ?_ ?_; rfl))
local macro_rules | `(tactic| walk_at "rd") => `(tactic| repeat walk_at "rd1")
section
variable {P : Program} {w : World} {K : PySem.W.Frag} {mg : Str → Option Value} {base : Heap}
theorem ix_tupC {X : Cx} {C : PySem.W.Frag} (hK : X.K = C) : IxR X (rIxT C) := hK ▸ ix_tup
def spRed (K : PySem.W.Frag) : Sp := fun vs H Q _ => ∃ a m S, vs = [.ref a] ∧ PlanAt K H a m S ∧ Good m S ∧ S.length ≤ 50000 ∧ ∀ x k H', L2.Same H H' → Least m S k → PlanAt K H' x k (redS k S) → Q (.ref x) H'
theorem d_reduced (T : Txt K mg) : MDf P w K mg base 9 (He.ma K (kp K) "reduced") ["self"] (spRed K) := by
  have D_least_step := d_least (P := P) (w := w) (base := base) T
  refine T.M_reduced.by sc_Plan_reduced (fun vs H Q E h => ?_) (fun f cdv A outer s H vs Q E hr hgd h => ?_)
  · obtain ⟨a, m, S, rfl, _⟩ := h; rfl
  · obtain ⟨a, m, S, rfl, ⟨dx, d, ha, hdx, mt⟩, g, lS, kk⟩ := h
    refine ⟨_, (pss_cons (ps_set (i := 1) sc_Plan_reduced.nd rfl (by first | exact Or.inl rfl | exact Or.inr rfl) (pe_own D_least_step (hr.mono (by first | decide | omega)) hgd (pa_cons (pe_fld (pv 0) rfl) (pa_cons (pe_fld (pv 0) rfl) pa_nil))))
      (pss_one (ps_ret (pe_makeP T.maker (d_initM T).fp (hr.mono (by first | decide | omega)) hgd T.g_Plan (pa_cons (pv 1) (pa_cons (pe_makeP T.mmk (d_made T).fp (hr.mono (by first | decide | omega)) hgd T.g_Made (pa_cons (pe_lock (Tv.pe_dcA (own := [("at", 2)]) (u := .dT []) (hu_of hr) (fun H h hb => dt_empty h hb) rfl sc_Plan_reduced.nd (pi_keys (pe_fld (pv 0) rfl)) (blkOk_by (own := [("at", 2)]) (N := ["self", "step", "at"]) (sc := defScope s_Plan_reduced) (by decide +kernel)) (fun _ _ _ _ _ => (pg_name (i := 2) sc_Plan_reduced.nd rfl (by first | exact Or.inl rfl | exact Or.inr rfl))) (fun _ _ _ _ _ => pts_one (pt_cmpR op_lt (pe_ix  (ix_tupC (C := K) rfl) (pv 2) pe_int (fun _ _ => rfl)) (pv 1) (nomark _))) (fun _ _ _ _ _ => (pv 2)) (fun _ _ _ _ _ => (pe_dget (hu_of hr) (pe_fldK (C := K) rfl (pv 0) rfl) (pv 2) (fun _ _ => rfl))))) pa_nil)) pa_nil)))))), ?_⟩
    have m1 := g.m1
    have m5 := g.m5
    have had : a ≠ d := fun z => by rw [z, mt.1] at ha; cases ha
    refine ⟨_, rfl, a, kp K, dx, _, _, rfl, ha, T.cls, T.no_partners, rfl, _, rfl, a, kp K, dx, _, _, rfl, ha, T.cls, T.no_period, rfl, ?_⟩
    refine ⟨d, m, S, rfl, mt, g, fun k H1 s1 least => ?_⟩
    obtain ⟨k1, km, kok, _⟩ := id least
    refine ⟨_, rfl, ?_⟩
    have kd : m % k = 0 := of_decide_eq_true (Bool.and_eq_true_iff.mp kok).1
    have g2 := red_good g k1 km
    refine ⟨d, .dT _, s1 _ _ mt.1, trivial, fun od => ?_⟩
    have fz : (upd H1 d (.frz od (.dT (S.map fun r => (tk r.1, V.ref r.2.1))))) d = some (.frz od (.dT (S.map fun r => (tk r.1, V.ref r.2.1)))) := upd_same
    have fa : (upd H1 d (.frz od (.dT (S.map fun r => (tk r.1, V.ref r.2.1))))) a = some (.ins (kp K) dx [("_period", .int m), ("_partners", .ref d)]) := (upd_ne had).trans (s1 _ _ ha)
    have unl : ∀ {G2 : Hp}, L2.Same (upd H1 d (.frz od (.dT (S.map fun r => (tk r.1, V.ref r.2.1))))) G2 → L2.Same H1 (upd G2 d (.dT (S.map fun r => (tk r.1, V.ref r.2.1)))) := fun s => lock_same (s1 _ _ mt.1) s
    generalize upd H1 d (.frz od (.dT (S.map fun r => (tk r.1, V.ref r.2.1)))) = F at fz fa unl ⊢
    refine ⟨_, rfl, a, kp K, dx, _, _, rfl, fa, T.cls, T.no_partners, rfl, d, od, rfl, .inr ⟨_, fz, fun E1 nE => ?_⟩⟩
    have E1d : E1 ≠ d := fun z => by rw [z, fz] at nE; cases nE
    refine dcA_it (walk_keysT (kvs := S.map fun r => (tk r.1, V.ref r.2.1))) (fun i H' => L2.Same F H' ∧ H' E1 = some (.dT ((redS k (S.take i)).map fun r => (tk r.1, V.ref r.2.1)))) ⟨Same.new nE, upd_same⟩ (fun i H' _ q => q.1 _ _ fz) (fun i x G G2 hi q y => ?_) (fun G5 q => ?_)
    · obtain ⟨sG, hE⟩ := q
      obtain ⟨rfl, kk, vv, qq, hkv, rfl, hq⟩ := y
      rw [List.length_map] at hi
      have hsi : S[i]? = some S[i] := List.getElem?_eq_getElem hi
      rw [List.getElem?_map, hsi] at hkv
      cases hkv
      have tki : S.take (i + 1) = S.take i ++ [S[i]] := by rw [List.take_add_one, hsi]; rfl
      have hr_ : S[i] ∈ S := List.getElem_mem hi
      have nw := take_new (fun r : Row => r.1) g.nd hsi
      generalize S[i] = r at hsi hr_ tki nw hq
      have tkr : redS k (S.take (i + 1)) = redS k (S.take i) ++ redS k [r] := by
        unfold redS
        rw [tki, List.filter_append]
      refine ⟨rfl, _, rfl, qq, _, 0, _, rfl, rfl, SqT.of hq, rfl, _, rfl, r.1.1, k, rfl, rfl, _, rfl, ?_⟩
      refine ite2 (fun c => ?_) (fun c => ?_)
      · have e1 : redS k [r] = [r] := by
          unfold redS
          rw [List.filter_cons, if_pos c]
          rfl
        have lt : ((redS k (S.take i)).map fun r => (tk r.1, V.ref r.2.1)).length < sizeLine := by
          rw [List.length_map]
          exact Nat.lt_of_le_of_lt (List.length_filter_le _ _) (Nat.lt_of_le_of_lt (List.length_take_le' _ _) (Nat.lt_of_le_of_lt lS (by decide +kernel)))
        have g2' : DGet G2 d (.ref qq) (some (.ref r.2.1)) := .inr ⟨_, tk r.1, qq, .inr ⟨od, sG _ _ fz⟩, rfl, hq, (row_val g.nd hr_).symm⟩
        refine ⟨_, rfl, _, rfl, a, kp K, dx, _, _, rfl, sG _ _ fa, T.cls, T.no_partners, rfl, _, rfl, d, _, rfl, g2', _, DPut.t (k := tk r.1) hE hq lt, Same.mut sG nE, ?_⟩
        rw [tkr, e1, List.map_append, L2.putK_new _ (val_none.mpr fun q hq e => ?_)]
        · exact upd_same
        · exact nw q (List.mem_filter.mp hq).1 e
      · have e1 : redS k [r] = [] := by
          unfold redS
          rw [List.filter_cons, if_neg c]
          rfl
        refine ⟨sG, ?_⟩
        rw [tkr, e1, List.append_nil]
        exact hE
    · obtain ⟨sG, hE0⟩ := q
      rw [List.length_map, List.take_length] at hE0
      refine ⟨sG _ _ fz, ?_⟩
      have t1 := unl sG
      have hE : (upd G5 d (.dT (S.map fun r => (tk r.1, V.ref r.2.1)))) E1 = some (.dT ((redS k S).map fun r => (tk r.1, V.ref r.2.1))) := (upd_ne E1d).trans hE0
      generalize upd G5 d (.dT (S.map fun r => (tk r.1, V.ref r.2.1))) = G5 at t1 hE ⊢
      have t8 := s1.trans t1
      have mt8 : MT G5 E1 (redS k S) := ⟨hE, fun q hq => t8 _ _ (mt.2 q (List.mem_filter.mp hq).1)⟩
      refine fun y dy ny ndy nyy => ⟨y, dy, E1, rfl, upd_same, rfl, ?_⟩
      have s9 : L2.Same G5 (upd (upd (upd G5 dy (.own y)) y (.ins (md K) dy [])) y (.ins (md K) dy [("rows", .ref E1)])) := Same.mut ((Same.new ndy).trans (Same.new ((upd_ne fun z => nyy z.symm).trans ny))) ny
      have hy9 := (upd_same : (upd (upd (upd G5 dy (.own y)) y (.ins (md K) dy [])) y (.ins (md K) dy [("rows", .ref E1)])) y = _)
      generalize upd (upd (upd G5 dy (.own y)) y (.ins (md K) dy [])) y (.ins (md K) dy [("rows", .ref E1)]) = G9 at s9 hy9 ⊢
      have mt9 := mt8.same s9
      refine fun x dx2 nx ndx nxx => ?_
      have s10 : L2.Same G9 (upd (upd G9 dx2 (.own x)) x (.ins (kp K) dx2 [])) := (Same.new ndx).trans (Same.new ((upd_ne fun z => nxx z.symm).trans nx))
      refine ⟨x, dx2, y, E1, k, redS k S, rfl, upd_same, (upd_ne nxx).trans upd_same, ⟨dy, s10 _ _ hy9⟩, mt9.same s10, g2.m1, g2.m5, fun H' keep pl' => ⟨rfl, ?_⟩⟩
      have s11 : L2.Same G9 H' := fun b o e => keep _ _ (s10 _ _ e) fun z => by rw [z, nx] at e; cases e
      exact kk x k H' (t8.trans (s9.trans s11)) least pl'
end
end K63

set_option Elab.async false
set_option linter.all false
set_option maxRecDepth 100000
set_option maxHeartbeats 4000000
namespace K63
open PySem L2 Lay Own SrtO Tv Ow
/-! the least period of what is told -/
def Per (f : Spot → Option (Int × Str)) (k : Int) : Prop := ∀ i n, f (i + k, n) = f (i, n)
theorem Per.zero {f : Spot → Option (Int × Str)} : Per f 0 := fun i n => by rw [Int.add_zero]
theorem Per.add {f : Spot → Option (Int × Str)} {a b : Int} (h : Per f a) (g : Per f b) : Per f (a + b) := fun i n => by
  rw [← Int.add_assoc, g, h]
theorem Per.neg {f : Spot → Option (Int × Str)} {a : Int} (h : Per f a) : Per f (-a) := fun i n => by
  have z := h (i + -a) n
  rw [Int.neg_add_cancel_right] at z
  exact z.symm
theorem Per.mul {f : Spot → Option (Int × Str)} {a : Int} (h : Per f a) : ∀ t : Nat, Per f (a * t)
  | 0 => by
    rw [show a * ((0 : Nat) : Int) = 0 by simp]
    exact Per.zero
  | t + 1 => by
    rw [Int.natCast_succ, Int.mul_add, Int.mul_one]
    exact (Per.mul h t).add h
theorem Per.gcd {f : Spot → Option (Int × Str)} (a b : Nat) : Per f a → Per f b → Per f (Nat.gcd a b) := by
  refine Nat.gcd.induction (P := fun a b => Per f a → Per f b → Per f (Nat.gcd a b)) a b (fun n _ h => ?_) (fun m n _ ih hm hn => ?_)
  · rw [Nat.gcd_zero_left]
    exact h
  · rw [Nat.gcd_rec]
    refine ih ?_ hm
    have e : ((n % m : Nat) : Int) = (n : Int) + -((m : Int) * ((n / m : Nat) : Int)) := by
      have z := Nat.mod_add_div n m
      have z2 : ((n % m : Nat) : Int) + (m : Int) * ((n / m : Nat) : Int) = (n : Int) := by
        rw [← Int.natCast_mul, ← Int.natCast_add, z]
      omega
    rw [e]
    exact hn.add (hm.mul (n / m)).neg
theorem ok_iff {m j : Int} {S : List Row} (g : Good m S) (j1 : 1 ≤ j) : okS m S j = true ↔ m % j = 0 ∧ Per (ent m S) j := by
  unfold okS
  rw [Bool.and_eq_true_iff, decide_eq_true_iff]
  constructor
  · rintro ⟨h1, h2⟩
    exact ⟨h1, fun i n => again_iff g j1 h1 h2 i n⟩
  · rintro ⟨h1, h2⟩
    refine ⟨h1, List.all_eq_true.mpr fun r hr => decide_eq_true ?_⟩
    rw [h2]
    have a := g.at_ r hr
    exact (ent_some g).mpr ⟨r, hr, by rw [Int.emod_eq_of_lt a.1 a.2.1], rfl⟩
theorem least_le {m k j : Int} {S : List Row} (g : Good m S) (h : Least m S k) (j1 : 1 ≤ j) (p : Per (ent m S) j) : k ≤ j ∧ j % k = 0 := by
  obtain ⟨k1, km, kok, al⟩ := h
  obtain ⟨kd, kp⟩ := (ok_iff g k1).mp kok
  obtain ⟨a, rfl⟩ : ∃ a : Nat, k = a := ⟨k.toNat, by omega⟩
  obtain ⟨b, rfl⟩ : ∃ b : Nat, j = b := ⟨j.toNat, by omega⟩
  have pg := Per.gcd a b kp p
  have g1 : 1 ≤ Nat.gcd a b := Nat.gcd_pos_of_pos_left b (by omega)
  have dv : (Nat.gcd a b : Int) ∣ (a : Int) := Int.natCast_dvd_natCast.mpr (Nat.gcd_dvd_left a b)
  have md : m % ((Nat.gcd a b : Nat) : Int) = 0 := Int.emod_eq_zero_of_dvd (Int.dvd_trans dv (Int.dvd_of_emod_eq_zero kd))
  have okg := (ok_iff g (show (1 : Int) ≤ ((Nat.gcd a b : Nat) : Int) by omega)).mpr ⟨md, pg⟩
  have e : Nat.gcd a b = a := by
    have le := Nat.gcd_le_left b (show 0 < a by omega)
    by_cases c : Nat.gcd a b = a
    · exact c
    · have z := al ((Nat.gcd a b : Nat) : Int) (by omega) (by omega)
      rw [okg] at z
      cases z
  have d : a ∣ b := by
    have := Nat.gcd_dvd_right a b
    rw [e] at this
    exact this
  refine ⟨?_, Int.emod_eq_zero_of_dvd (Int.natCast_dvd_natCast.mpr d)⟩
  have := Nat.le_of_dvd (by omega) d
  omega
theorem least_fun {m m2 k l : Int} {S S2 : List Row} (g : Good m S) (g2 : Good m2 S2) (e : ∀ p, ent m S p = ent m2 S2 p) (h : Least m S k) (h2 : Least m2 S2 l) : k = l := by
  have ef : ent m S = ent m2 S2 := funext e
  have p1 := ((ok_iff g h.1).mp h.2.2.1).2
  have p2 := ((ok_iff g2 h2.1).mp h2.2.2.1).2
  have a := (least_le g h h2.1 (by rw [ef]; exact p2)).1
  have b := (least_le g2 h2 h.1 (by rw [← ef]; exact p1)).1
  omega
end K63

set_option Elab.async false
set_option linter.all false
set_option maxRecDepth 100000
set_option maxHeartbeats 4000000
namespace K63
open PySem L2 Lay Own SrtO Tv Ow
local macro_rules | `(tactic| walk_at "ne") => `(tactic| first | assumption | (apply Ne.symm; assumption) | exact ne_of_none (by walk_at "look") (by assumption) | exact (ne_of_none (by walk_at "look") (by assumption)).symm)
local macro_rules | `(tactic| walk_at "look") => `(tactic| first | assumption | exact upd_same | (refine Eq.trans (upd_ne ?_) ?_; walk_at "ne"; walk_at "look"))
local macro_rules | `(tactic| walk_at "rds") => `(tactic| first | rfl | assumption | walk_at "look" | exact SqL.of (by walk_at "look") | exact SqT.of (by walk_at "look") | exact Or.inl (SqL.of (by walk_at "look")) | exact Or.inl (by assumption) | decide | omega | exact Nat.le_of_ble_eq_true rfl | exact Or.inr ⟨by decide, by decide⟩ | exact Or.inl ⟨by omega, by omega⟩ | exact ⟨by decide, by decide⟩)
local macro_rules | `(tactic| walk_at "rd1") => `(tactic| first | (apply Exists.intro) | (refine And.intro ?_ ?_; walk_at "rds") | (refine Or.inl ?_; apply Exists.intro; refine And.intro ?_ ?_; rfl))
local macro_rules | `(tactic| walk_at "rd") => `(tactic| repeat walk_at "rd1")
section
variable {P : Program} {w : World} {K : PySem.W.Frag} {mg : Str → Option Value} {base : Heap}
theorem nf_own : PySem.W.notFirst K (kp K) (.ref (kp K)) = true := by simp [PySem.W.notFirst]
theorem perm_ent {m : Int} {S S2 : List Row} (g : Good m S) (g2 : Good m S2) (p : (ct S).Perm (ct S2)) (x : Spot) : ent m S x = ent m S2 x := by
  have m1 := g.m1
  have c0 := Int.emod_nonneg x.1 (show m ≠ 0 by omega)
  have c1 := Int.emod_lt_of_pos x.1 (show 0 < m by omega)
  have e1 : ent m S x = ent m S (x.1 % m, x.2) := ent_per m S x.1 (x.1 % m) x.2 (by rw [Int.emod_emod])
  have e2 : ent m S2 x = ent m S2 (x.1 % m, x.2) := ent_per m S2 x.1 (x.1 % m) x.2 (by rw [Int.emod_emod])
  rw [e1, e2]
  refine Option.ext fun q => ?_
  have a := ct_mem g (k := (x.1 % m, x.2)) (q := q)
  have b := ct_mem g2 (k := (x.1 % m, x.2)) (q := q)
  rw [p.mem_iff] at a
  constructor
  · intro h
    exact (b.mp (a.mpr ⟨⟨c0, c1⟩, h⟩)).2
  · intro h
    exact (a.mp (b.mpr ⟨⟨c0, c1⟩, h⟩)).2
/-- a plan by its rows -/
theorem plan_ins {H : Hp} {a : Addr} {m : Int} {S : List Row} (h : PlanAt K H a m S) : ∃ dx d, H a = some (.ins (kp K) dx [("_period", .int m), ("_partners", .ref d)]) := by
  obtain ⟨dx, d, h1, _⟩ := h
  exact ⟨dx, d, h1⟩
/-- == of plans: whichever way -/
theorem plan_eq (T : Txt K mg) {H : Hp} {a b : Addr} {m m2 : Int} {S S2 : List Row} {neg : Bool} {Q : VK} (pa : PlanAt K H a m S) (pb : PlanAt K H b m2 S2) (g : Good m S) (g2 : Good m2 S2)
    (k : ∀ c : Bool, (c = true ↔ m = m2 ∧ ∀ p, ent m S p = ent m2 S2 p) → Q (.bl (if neg then !c else c)) H) : rEqP K (kp K) (spEq K) neg (.ref a) (.ref b) H Q := by
  obtain ⟨dx, d, hi⟩ := plan_ins pa
  obtain ⟨dx2, d2, hi2⟩ := plan_ins pb
  refine ⟨a, dx, _, .ref (kp K), rfl, hi, own_ty T hi2, nf_own, a, m, S, _, rfl, pa, .inl ⟨b, m2, S2, rfl, pb, g.rok, ?_⟩⟩
  by_cases c1 : m = m2
  · subst c1
    by_cases c2 : S.length = S2.length
    · by_cases c3 : (ct S).Perm (ct S2)
      · exact .inr (.inl ⟨rfl, c3, g.nd, true, rfl, k true ⟨fun _ => ⟨rfl, perm_ent g g2 c3⟩, fun _ => rfl⟩⟩)
      · exact .inr (.inr ⟨rfl, c2, g2.rok, g.nd, g2.nd, c3, false, rfl, k false ⟨fun z => (nomatch z), fun z => absurd (ct_perm g g2 z.2) c3⟩⟩)
    · refine .inl ⟨.inr c2, false, rfl, k false ⟨fun z => (nomatch z), fun z => absurd ?_ c2⟩⟩
      have l := (ct_perm g g2 z.2).length_eq
      unfold ct at l
      rwa [List.length_map, List.length_map] at l
  · exact .inl ⟨.inl c1, false, rfl, k false ⟨fun z => (nomatch z), fun z => absurd z.1 c1⟩⟩
theorem redN {H : Hp} {a : Addr} {m : Int} {S : List Row} {Q : VK} {E : XK} {σ : L2.St} (pl : PlanAt K H a m S) (g : Good m S) (l : S.length ≤ 50000) (k : ∀ x k H', L2.Same H H' → Least m S k → PlanAt K H' x k (redS k S) → Q (.ref x) H') : tNil σ H (fun vs H2 => spRed K (.ref a :: vs) H2 Q E) := ⟨a, m, S, rfl, pl, g, l, k⟩
def spSame (K : PySem.W.Frag) : Sp := fun vs H Q _ => ∃ a b m m2 S S2, vs = [.ref a, .ref b] ∧ PlanAt K H a m S ∧ PlanAt K H b m2 S2 ∧ Good m S ∧ Good m2 S2 ∧ S.length ≤ 50000 ∧ S2.length ≤ 50000 ∧
  ∀ (c : Bool) H', L2.Same H H' → (c = true ↔ ∀ p, ent m S p = ent m2 S2 p) → Q (.bl c) H'
theorem d_same (T : Txt K mg) : MDf P w K mg base 10 (He.ma K (kp K) "is_same") ["self", "other"] (spSame K) := by
  refine T.M_is_same.by sc_Plan_is_same (fun vs H Q E h => ?_) (fun f cdv A outer s H vs Q E hr hgd h => ?_)
  · obtain ⟨a, b, m, m2, S, S2, rfl, _⟩ := h; rfl
  · obtain ⟨a, b, m, m2, S, S2, rfl, pa, pb, g, g2, l1, l2, k⟩ := h
    refine ⟨_, (pss_one (ps_ret (pe_cmpR (op_eqP T.f___eq__ T.i___eq__ (d_eq T).fp (hr.mono (by decide)) hgd) (pe_methP0 (pv 0) T.cls T.m_reduced (d_reduced T).fp (hr.mono (by first | decide | omega)) hgd) (pe_methP0 (pv 1) T.cls T.m_reduced (d_reduced T).fp (hr.mono (by first | decide | omega)) hgd) (nomark _)))), ?_⟩
    obtain ⟨dx, d, hi⟩ := plan_ins pa
    refine ⟨_, rfl, a, dx, _, rfl, hi, rfl, redN pa g l1 fun x1 k1 H1 s1 le1 p1 => ?_⟩
    have pb1 := pb.same s1
    obtain ⟨dx2, d2, hi2⟩ := plan_ins pb1
    refine ⟨_, rfl, b, dx2, _, rfl, hi2, rfl, redN pb1 g2 l2 fun x2 k2 H2 s2 le2 p2 => ?_⟩
    have e1 := red_ent g le1.1 le1.2.1 ((ok_iff g le1.1).mp le1.2.2.1).1 (Bool.and_eq_true_iff.mp le1.2.2.1).2
    have e2 := red_ent g2 le2.1 le2.2.1 ((ok_iff g2 le2.1).mp le2.2.2.1).1 (Bool.and_eq_true_iff.mp le2.2.2.1).2
    refine plan_eq T (p1.same s2) p2 (red_good g le1.1 le1.2.1) (red_good g2 le2.1 le2.2.1) fun c hc => ?_
    refine k c H2 (s1.trans s2) ⟨fun z p => ?_, fun z => ?_⟩
    · rw [← e1, ← e2]
      exact (hc.mp z).2 p
    · exact hc.mpr ⟨least_fun g g2 z le1 le2, fun p => by rw [e1, e2]; exact z p⟩
end
end K63

set_option Elab.async false
set_option linter.all false
set_option maxRecDepth 100000
set_option maxHeartbeats 4000000
namespace K63
open PySem L2 Lay Own SrtO Tv Ow
local macro_rules | `(tactic| walk_at "ne") => `(tactic| first | assumption | (apply Ne.symm; assumption) | exact ne_of_none (by walk_at "look") (by assumption) | exact (ne_of_none (by walk_at "look") (by assumption)).symm)
local macro_rules | `(tactic| walk_at "look") => `(tactic| first | assumption | exact upd_same | (refine Eq.trans (upd_ne ?_) ?_; walk_at "ne"; walk_at "look"))
local macro_rules | `(tactic| walk_at "rds") => `(tactic| first | rfl | assumption | walk_at "look" | exact SqL.of (by walk_at "look") | exact SqT.of (by walk_at "look") | exact Or.inl (SqL.of (by walk_at "look")) | exact Or.inl (by assumption) | decide | omega | exact Nat.le_of_ble_eq_true rfl | exact Or.inr ⟨by decide, by decide⟩ | exact Or.inl ⟨by omega, by omega⟩ | exact ⟨by decide, by decide⟩)
local macro_rules | `(tactic| walk_at "rd1") => `(tactic| first | (apply Exists.intro) | (refine And.intro ?_ ?_; walk_at "rds") | (refine Or.inl ?_; apply Exists.intro; refine And.intro ?_ ?_; rfl))
local macro_rules | `(tactic| walk_at "rd") => `(tactic| repeat walk_at "rd1")
section
variable {P : Program} {w : World} {K : PySem.W.Frag} {mg : Str → Option Value} {base : Heap}
def spLCA : Sp := fun vs H Q _ => ∃ d m k S, vs = [.int m, .ref d, .int k] ∧ MT H d S ∧ Good m S ∧ ∀ H', L2.Same H H' → Q (.bl (ca m S k)) H'
theorem d_lcomes (T : Txt K mg) : Df P w K mg base 1 "_law_comes_again" ["_law_span", "_law_mates_here", "_law_by"] spLCA := by
  refine T.S_l_comes_again.by sc_l_comes_again (fun vs H Q E h => ?_) (fun f cdv A outer s H vs Q E hr hgd h => ?_)
  · obtain ⟨d, m, k, S, rfl, _⟩ := h; rfl
  · obtain ⟨d, m, st, S, rfl, mt, g, k⟩ := h
    refine ⟨_, (pss_cons (ps_lock (ps_for PassesOwn.never rfl (pi_keys (pv 1)) (pg_tup rfl (pgs_cons (pg_name (i := 3) sc_l_comes_again.nd rfl (by first | exact Or.inl rfl | exact Or.inr rfl)) (pgs_cons (pg_name (i := 4) sc_l_comes_again.nd rfl (by first | exact Or.inl rfl | exact Or.inr rfl)) pgs_nil))) (pss_one (ps_if (pt_cmpR (op_neD (un64 hr)) (pe_dget2 (hu_of hr) (pv 1) (pe_tup (pa_cons (pe_op op_mod (pe_op op_add (pv 3) (pv 2)) (pv 0)) (pa_cons (pv 4) pa_nil))) pe_non ⟨rfl, rfl, rfl, rfl⟩) (pe_dget (hu_of hr) (pv 1) (pe_tup (pa_cons (pv 3) (pa_cons (pv 4) pa_nil))) (fun _ _ => rfl)) (nomark _)) (pss_one (ps_ret pe_bl)) pss_nil))))
      (pss_one (ps_ret pe_bl))), ?_⟩
    have m1 := g.m1
    refine ⟨d, .dT _, mt.1, trivial, fun od => ?_⟩
    have fz : (upd H d (.frz od (.dT (S.map fun r => (tk r.1, V.ref r.2.1))))) d = some (.frz od (.dT (S.map fun r => (tk r.1, V.ref r.2.1)))) := upd_same
    have fr_ : ∀ r ∈ S, (upd H d (.frz od (.dT (S.map fun r => (tk r.1, V.ref r.2.1))))) r.2.1 = some (.tup [.int r.2.2.1, .str r.2.2.2]) := fun r hr => (upd_ne fun z => by
      have h := mt.2 r hr
      rw [z, mt.1] at h
      cases h).trans (mt.2 r hr)
    have unl : ∀ {G2 : Hp}, L2.Same (upd H d (.frz od (.dT (S.map fun r => (tk r.1, V.ref r.2.1))))) G2 → L2.Same H (upd G2 d (.dT (S.map fun r => (tk r.1, V.ref r.2.1)))) := fun s => lock_same mt.1 s
    generalize upd H d (.frz od (.dT (S.map fun r => (tk r.1, V.ref r.2.1)))) = F at fz fr_ unl ⊢
    refine ⟨_, rfl, d, od, rfl, .inr ⟨_, fz, ?_⟩⟩
    refine for_it (walk_keysT (kvs := S.map fun r => (tk r.1, V.ref r.2.1))) (fun n σ G2 => ∃ s3 s4 : Option V, σ = [some (.int m), some (.ref d), some (.int st), s3, s4] ∧ L2.Same F G2 ∧ ∀ r ∈ S.take n, ent m S (r.1.1 + st, r.1.2) = some r.2.2)
      ⟨_, _, rfl, Same.refl _, fun r hr => (nomatch hr)⟩ (fun n σ G2 _ q => by obtain ⟨_, _, _, s, _⟩ := q; exact s _ _ fz) (fun n x σ G2 G3 hn hP y => ?_) (fun σ G2 hP => ?_)
    · obtain ⟨s3, s4, rfl, sG, al⟩ := hP
      obtain ⟨rfl, kk, vv, q, hkv, rfl, hq⟩ := y
      rw [List.length_map] at hn
      have hsi : S[n]? = some S[n] := List.getElem?_eq_getElem hn
      rw [List.getElem?_map, hsi] at hkv
      cases hkv
      have tkn : S.take (n + 1) = S.take n ++ [S[n]] := by rw [List.take_add_one, hsi]; rfl
      have hr_ : S[n] ∈ S := List.getElem_mem hn
      generalize S[n] = r at hsi hr_ tkn hq
      refine ⟨q, _, rfl, SqT.of hq, rfl, _, _, rfl, _, _, rfl, rfl, ?_⟩
      refine ⟨_, rfl, d, rfl, .inr ⟨_, .inr ⟨od, sG _ _ fz⟩⟩, _, rfl, _, rfl, r.1.1, st, rfl, rfl, _, rfl, r.1.1 + st, m, rfl, rfl, by omega, _, rfl, by show (2 : Nat) ≤ sizeLine; decide +kernel, fun u nu => ?_⟩
      have s7 := Same.new (o := .tup [V.int ((r.1.1 + st) % m), V.str r.1.2]) nu
      have sG4 := sG.trans s7
      refine ⟨_, .inr ⟨_, tk ((r.1.1 + st) % m, r.1.2), u, .inr ⟨od, sG4 _ _ fz⟩, rfl, upd_same, rfl⟩, ?_⟩
      rw [valV_tk]
      refine ⟨_, rfl, _, rfl, _, rfl, by show (2 : Nat) ≤ sizeLine; decide +kernel, fun u2 nu2 => ?_⟩
      have s8 := Same.new (o := .tup [V.int r.1.1, V.str r.1.2]) nu2
      have sG5 := sG4.trans s8
      refine ⟨d, .ref r.2.1, rfl, .inr ⟨_, tk r.1, u2, .inr ⟨od, sG5 _ _ fz⟩, rfl, upd_same, (row_val g.nd hr_).symm⟩, ?_⟩
      have dpv : Dp K (upd (upd G3 u (.tup [V.int ((r.1.1 + st) % m), V.str r.1.2])) u2 (.tup [V.int r.1.1, V.str r.1.2])) (((S.find? fun q => decide (q.1 = ((r.1.1 + st) % m, r.1.2))).map fun q => V.ref q.2.1).getD .non) (pvD (ent m S (r.1.1 + st, r.1.2))) := by
        have e : ent m S (r.1.1 + st, r.1.2) = (S.find? fun q => decide (q.1 = ((r.1.1 + st) % m, r.1.2))).map fun q => q.2.2 := rfl
        rw [e]
        cases hf : S.find? fun q => decide (q.1 = ((r.1.1 + st) % m, r.1.2)) with
        | none => exact .non
        | some z => exact dp_spot (sG5 _ _ (fr_ z (List.mem_of_find?_eq_some hf)))
      have sh1 : SeqAt.shaped (pvD (ent m S (r.1.1 + st, r.1.2))) = true := pvD_sh fun s e => by
        obtain ⟨z, hz, _, rfl⟩ := (ent_some g).mp e
        exact (g.go z hz).2.2
      have sh2 : SeqAt.shaped (spD r.2.2) = true := spD_sh (g.go r hr_).2.2.ok
      refine ⟨_, spD r.2.2, dpv, dp_spot (sG5 _ _ (fr_ r hr_)), sh1, sh2, ?_⟩
      rw [eqv_pv]
      by_cases c : ent m S (r.1.1 + st, r.1.2) = some r.2.2
      · rw [decide_eq_true c]
        refine ⟨false, rfl, iteF ?_⟩
        refine ⟨_, _, rfl, sG5, fun z hz => ?_⟩
        rw [tkn] at hz
        rcases List.mem_append.mp hz with hz | hz
        · exact al z hz
        · rw [List.mem_singleton.mp hz]; exact c
      · rw [decide_eq_false c]
        refine ⟨true, rfl, iteT ?_⟩
        refine ⟨sG5 _ _ fz, ?_⟩
        have e : ca m S st = false := by
          unfold ca
          rw [List.all_eq_false]
          exact ⟨r, hr_, by rw [decide_eq_false c]; decide⟩
        have z := k _ (unl sG5)
        rw [e] at z
        exact z
    · obtain ⟨s3, s4, rfl, sG, al⟩ := hP
      rw [List.length_map, List.take_length] at al
      refine ⟨sG _ _ fz, ?_⟩
      have e : ca m S st = true := List.all_eq_true.mpr fun r hr => decide_eq_true (al r hr)
      have z := k _ (unl sG)
      rw [e] at z
      exact z
end
end K63

set_option Elab.async false
set_option linter.all false
set_option maxRecDepth 100000
set_option maxHeartbeats 4000000
namespace K63
open PySem L2 Lay Own SrtO Tv Ow
local macro_rules | `(tactic| walk_at "ne") => `(tactic| first | assumption | (apply Ne.symm; assumption) | exact ne_of_none (by walk_at "look") (by assumption) | exact (ne_of_none (by walk_at "look") (by assumption)).symm)
local macro_rules | `(tactic| walk_at "look") => `(tactic| first | assumption | exact upd_same | (refine Eq.trans (upd_ne ?_) ?_; walk_at "ne"; walk_at "look"))
local macro_rules | `(tactic| walk_at "rds") => `(tactic| first | rfl | assumption | walk_at "look" | exact SqL.of (by walk_at "look") | exact SqT.of (by walk_at "look") | exact Or.inl (SqL.of (by walk_at "look")) | exact Or.inl (by assumption) | decide | omega | exact Nat.le_of_ble_eq_true rfl | exact Or.inr ⟨by decide, by decide⟩ | exact Or.inl ⟨by omega, by omega⟩ | exact ⟨by decide, by decide⟩)
local macro_rules | `(tactic| walk_at "rd1") => `(tactic| first | (apply Exists.intro) | (refine And.intro ?_ ?_; walk_at "rds") | (refine Or.inl ?_; apply Exists.intro; refine And.intro ?_ ?_; rfl))
local macro_rules | `(tactic| walk_at "rd") => `(tactic| repeat walk_at "rd1")
section
variable {P : Program} {w : World} {K : PySem.W.Frag} {mg : Str → Option Value} {base : Heap}
theorem least_ex {m : Int} {S : List Row} (g : Good m S) : ∃ k, Least m S k := by
  have all : ∀ n : Nat, (∃ k : Int, 1 ≤ k ∧ k ≤ n ∧ k ≤ m ∧ okS m S k = true) → ∃ k, Least m S k := by
    intro n
    induction n with
    | zero =>
      rintro ⟨k, h1, h2, _⟩
      omega
    | succ n ih =>
      rintro ⟨k, h1, h2, h3, h4⟩
      by_cases c : ∃ j : Int, 1 ≤ j ∧ j ≤ n ∧ j ≤ m ∧ okS m S j = true
      · exact ih c
      · refine ⟨k, h1, h3, h4, fun j j1 jk => ?_⟩
        cases e : okS m S j with
        | false => rfl
        | true => exact absurd ⟨j, j1, by omega, by omega, e⟩ c
  have m1 := g.m1
  exact all m.toNat ⟨m, m1, by omega, Int.le_refl _, ok_per g⟩
def fK (m : Int) (S : List Row) (j : Nat) : Option Int := if okS m S (1 + (j : Int)) = true then some (1 + (j : Int)) else none
theorem first_ok {m : Int} {S : List Row} {k : Int} (h : Least m S k) : ∃ zs, (List.range m.toNat).filterMap (fK m S) = k :: zs := by
  obtain ⟨k1, km, kok, al⟩ := h
  obtain ⟨a, ha⟩ : ∃ a : Nat, k = 1 + (a : Int) := ⟨(k - 1).toNat, by omega⟩
  subst ha
  have lt : a < m.toNat := by omega
  have e := (List.take_append_drop a (List.range m.toNat)).symm
  rw [List.drop_eq_getElem_cons (by rw [List.length_range]; exact lt), List.getElem_range] at e
  rw [e, List.filterMap_append, List.filterMap_cons]
  have z : (List.take a (List.range m.toNat)).filterMap (fK m S) = [] := by
    rw [List.filterMap_eq_nil_iff]
    intro j hj
    rw [List.take_range] at hj
    have hj := List.mem_range.mp hj
    unfold fK
    rw [al (1 + (j : Int)) (by omega) (by omega)]
    rfl
  have y : fK m S a = some (1 + (a : Int)) := if_pos kok
  rw [z, y]
  exact ⟨_, rfl⟩
def spLLe : Sp := fun vs H Q _ => ∃ d m S, vs = [.int m, .ref d] ∧ MT H d S ∧ Good m S ∧ ∀ k H', L2.Same H H' → Least m S k → Q (.int k) H'
theorem d_lleast (T : Txt K mg) : Df P w K mg base 2 "_law_least" ["_law_span", "_law_mates_here"] spLLe := by
  have D_l_comes_again := d_lcomes (P := P) (w := w) (base := base) T
  refine T.S_l_least.by sc_l_least (fun vs H Q E h => ?_) (fun f cdv A outer s H vs Q E hr hgd h => ?_)
  · obtain ⟨d, m, S, rfl, _⟩ := h; rfl
  · obtain ⟨d, m, S, rfl, mt, g, k⟩ := h
    refine ⟨_, (pss_one (ps_ret (pe_ix ix_list (pe_lc (own := [("_law_by", 2)]) rfl sc_l_least.nd (pi_range2 (by rfl) T.n_range (pa_cons pe_int (pa_cons (pe_op op_add (pv 0) pe_int) pa_nil))) (blkOk_by (own := [("_law_by", 2)]) (N := ["_law_span", "_law_mates_here", "_law_by"]) (sc := defScope s_l_least) (by decide +kernel)) (fun _ _ _ _ _ => (pg_name (i := 2) sc_l_least.nd rfl (by first | exact Or.inl rfl | exact Or.inr rfl))) (fun _ _ _ _ _ => pts_one (PW.pt (pw_and (pt_cmpR op_eq (pe_op op_mod (pv 0) (pv 2)) pe_int (nomark _)) (pw_and1 (pt_val (pe_own D_l_comes_again (hr.mono (by first | decide | omega)) hgd (pa_cons (pv 0) (pa_cons (pv 1) (pa_cons (pv 2) pa_nil))))))))) (fun _ _ _ _ _ => (pv 2))) pe_int (fun _ _ => rfl)))), ?_⟩
    have m1 := g.m1
    have m5 := g.m5
    refine ⟨_, rfl, m, 1, rfl, rfl, 1, m + 1, rfl, ⟨by omega, by omega, by omega, by omega⟩, fun D nD => ?_⟩
    rw [show m + 1 - 1 = m by omega]
    refine lc_fil walk_range nD (by omega) (fun _ _ => trivial) (fK m S) (fun _ v c => v = V.int c) (fun _ _ _ _ _ h => h) (fun _ _ _ _ _ _ h => h) (fun i x H5 H6 Kn Z hi sm _ y q n => ?_) (fun H5 xs sm hD hp5 => ?_)
    · obtain ⟨rfl, rfl⟩ := y
      refine ⟨rfl, ?_⟩
      by_cases c : m % (1 + (i : Int)) = 0
      · refine ⟨_, rfl, _, rfl, m, 1 + (i : Int), rfl, rfl, by omega, rfl, true, ?_, iteT ?_⟩
        · show V.bl (decide (V.int (m % (1 + (i : Int))) = V.int 0)) = V.bl true
          rw [c, decide_eq_true rfl]
        refine ⟨_, rfl, _, rfl, _, rfl, d, m, 1 + (i : Int), S, rfl, mt.same sm, g, fun H7 s7 => ⟨_, rfl, ?_⟩⟩
        have ok : okS m S (1 + (i : Int)) = ca m S (1 + (i : Int)) := by
          unfold okS
          rw [decide_eq_true c, Bool.true_and]
        cases hc : ca m S (1 + (i : Int)) with
        | true =>
          rw [hc] at ok
          exact ⟨_, rfl, q _ _ _ (if_pos ok) s7 rfl⟩
        | false =>
          rw [hc] at ok
          exact n (if_neg (by rw [ok]; exact Bool.false_ne_true)) _ s7
      · refine ⟨_, rfl, _, rfl, m, 1 + (i : Int), rfl, rfl, by omega, rfl, false, ?_, iteF ?_⟩
        · show V.bl (decide (V.int (m % (1 + (i : Int))) = V.int 0)) = V.bl false
          rw [decide_eq_false (fun z => c (V.int.inj z))]
        have ok : okS m S (1 + (i : Int)) = false := by
          unfold okS
          rw [decide_eq_false c, Bool.false_and]
        exact n (if_neg (by rw [ok]; exact Bool.false_ne_true)) _ (Same.refl _)
    · obtain ⟨kk, hk⟩ := least_ex g
      obtain ⟨zs, ez⟩ := first_ok hk
      rw [ez] at hp5
      cases hp5 with
      | cons hx _ =>
        cases hx
        exact ⟨D, _, ((0 : Nat) : Int), V.int kk, rfl, rfl, SqL.of hD, atI_nat rfl, k kk _ sm hk⟩
end
end K63

set_option Elab.async false
set_option linter.all false
set_option maxRecDepth 100000
set_option maxHeartbeats 4000000
namespace K63
open PySem L2 Lay Own SrtO Tv Ow
local macro_rules | `(tactic| walk_at "ne") => `(tactic| first | assumption | (apply Ne.symm; assumption) | exact ne_of_none (by walk_at "look") (by assumption) | exact (ne_of_none (by walk_at "look") (by assumption)).symm)
local macro_rules | `(tactic| walk_at "look") => `(tactic| first | assumption | exact upd_same | (refine Eq.trans (upd_ne ?_) ?_; walk_at "ne"; walk_at "look"))
local macro_rules | `(tactic| walk_at "rds") => `(tactic| first | rfl | assumption | walk_at "look" | exact SqL.of (by walk_at "look") | exact SqT.of (by walk_at "look") | exact Or.inl (SqL.of (by walk_at "look")) | exact Or.inl (by assumption) | decide | omega | exact Nat.le_of_ble_eq_true rfl | exact Or.inr ⟨by decide, by decide⟩ | exact Or.inl ⟨by omega, by omega⟩ | exact ⟨by decide, by decide⟩)
local macro_rules | `(tactic| walk_at "rd1") => `(tactic| first | (apply Exists.intro) | (refine And.intro ?_ ?_; walk_at "rds") | (refine Or.inl ?_; apply Exists.intro; refine And.intro ?_ ?_; rfl))
local macro_rules | `(tactic| walk_at "rd") => `(tactic| repeat walk_at "rd1")
section
variable {P : Program} {w : World} {K : PySem.W.Frag} {mg : Str → Option Value} {base : Heap}
def spCom : Sp := fun vs H Q _ => ∃ a b : Nat, vs = [.int (a : Int), .int (b : Int)] ∧ 1 ≤ a ∧ 1 ≤ b ∧ a ≤ 1000 ∧ b ≤ 1000 ∧ Q (.int ((a / Nat.gcd a b * b : Nat) : Int)) H
theorem d_common (T : Txt K mg) : Df P w K mg base 1 "_law_common" ["_law_one", "_law_far"] spCom := by
  refine T.S_l_common.by sc_l_common (fun vs H Q E h => ?_) (fun f cdv A outer s H vs Q E hr hgd h => ?_)
  · obtain ⟨a, b, rfl, _⟩ := h; rfl
  · obtain ⟨a, b, rfl, a1, b1, a5, b5, k⟩ := h
    refine ⟨_, (pss_cons (ps_par (i := 2) (j := 3) rfl sc_l_common.nd rfl rfl (by decide) rfl rfl (pa_cons (pv 0) (pa_cons (pv 1) pa_nil)) (by first | rfl | with_unfolding_all rfl))
      (pss_cons (ps_while PassesOwn.never (pt_cmpR op_gt (pv 3) pe_int (nomark _)) (pss_one (ps_par (i := 2) (j := 3) rfl sc_l_common.nd rfl rfl (by decide) rfl rfl (pa_cons (pv 3) (pa_cons (pe_op op_mod (pe_callTy call_int1 (by rfl) T.n_int (by decide +kernel) (pa_cons (pv 2) pa_nil)) (pv 3)) pa_nil)) (by first | rfl | with_unfolding_all rfl))))
      (pss_one (ps_ret (pe_op op_mul (pe_op op_fdiv (pv 0) (pv 2)) (pv 1)))))), ?_⟩
    refine ⟨_, rfl, _, rfl, _, _, rfl, ?_⟩
    refine ⟨fun n σ G => ∃ x y : Nat, σ = [some (.int (a : Int)), some (.int (b : Int)), some (.int (x : Int)), some (.int (y : Int))] ∧ G = H ∧ 1 ≤ x ∧ x ≤ 1000 ∧ y ≤ 1000 ∧ n = y ∧ Nat.gcd x y = Nat.gcd a b, ⟨b, a, b, rfl, rfl, a1, a5, b5, rfl, rfl⟩, fun n σ G hW => ?_⟩
    obtain ⟨x, y, rfl, rfl, x1, x5, y5, rfl, gc⟩ := hW
    by_cases c : n = 0
    · subst c
      refine ⟨_, rfl, ((0 : Nat) : Int), 0, rfl, rfl, false, rfl, iteF ?_⟩
      rw [Nat.gcd_zero_right] at gc
      subst gc
      refine ⟨_, rfl, _, rfl, (a : Int), ((Nat.gcd a b : Nat) : Int), rfl, rfl, ⟨by omega, by omega⟩, _, rfl, (a : Int) / ((Nat.gcd a b : Nat) : Int), (b : Int), rfl, rfl, .inr ⟨by omega, by omega⟩, ?_⟩
      have e : (a : Int) / ((Nat.gcd a b : Nat) : Int) * (b : Int) = ((a / Nat.gcd a b * b : Nat) : Int) := by
        rw [Int.natCast_mul, Int.natCast_ediv]
      show Q (.int ((a : Int) / ((Nat.gcd a b : Nat) : Int) * (b : Int))) _
      rw [e]
      exact k
    · refine ⟨_, rfl, (n : Int), 0, rfl, rfl, true, congrArg V.bl (decide_eq_true (by omega)), iteT ?_⟩
      refine ⟨fun σ' H' => σ' = [some (.int (a : Int)), some (.int (b : Int)), some (.int (n : Int)), some (.int ((x % n : Nat) : Int))] ∧ H' = G, fun σ' H' q => ?_, ?_⟩
      · obtain ⟨rfl, rfl⟩ := q
        have lt := Nat.mod_lt x (show 0 < n by omega)
        exact ⟨x % n, lt, n, x % n, rfl, rfl, by omega, y5, by omega, rfl, by rw [← gc, Nat.gcd_comm x n, Nat.gcd_rec n x, Nat.gcd_comm]⟩
      · refine ⟨_, rfl, _, rfl, .inl ⟨(x : Int), rfl, _, rfl, (x : Int), (n : Int), rfl, rfl, by omega, _, _, rfl, ?_, rfl⟩⟩
        show [some (V.int (a : Int)), some (V.int (b : Int)), some (V.int (n : Int)), some (V.int ((x : Int) % (n : Int)))] = _
        rw [← Int.natCast_emod]
end
end K63

set_option Elab.async false
set_option linter.all false
set_option maxRecDepth 100000
set_option maxHeartbeats 4000000
namespace K63
open PySem L2 Lay Own SrtO Tv Ow
local macro_rules | `(tactic| walk_at "ne") => `(tactic| first | assumption | (apply Ne.symm; assumption) | exact ne_of_none (by walk_at "look") (by assumption) | exact (ne_of_none (by walk_at "look") (by assumption)).symm)
local macro_rules | `(tactic| walk_at "look") => `(tactic| first | assumption | exact upd_same | (refine Eq.trans (upd_ne ?_) ?_; walk_at "ne"; walk_at "look"))
local macro_rules | `(tactic| walk_at "rds") => `(tactic| first | rfl | assumption | walk_at "look" | exact SqL.of (by walk_at "look") | exact SqT.of (by walk_at "look") | exact Or.inl (SqL.of (by walk_at "look")) | exact Or.inl (by assumption) | decide | omega | exact Nat.le_of_ble_eq_true rfl | exact Or.inr ⟨by decide, by decide⟩ | exact Or.inl ⟨by omega, by omega⟩ | exact ⟨by decide, by decide⟩)
local macro_rules | `(tactic| walk_at "rd1") => `(tactic| first | (apply Exists.intro) | (refine And.intro ?_ ?_; walk_at "rds") | (refine Or.inl ?_; apply Exists.intro; refine And.intro ?_ ?_; rfl))
local macro_rules | `(tactic| walk_at "rd") => `(tactic| repeat walk_at "rd1")
theorem eqv_pp (o o2 : Option (Int × Str)) : PyData.eqv (pvD o) (pvD o2) = decide (o = o2) := by
  cases o2 with
  | some q => exact eqv_pv o q
  | none =>
    cases o with
    | none =>
      rw [decide_eq_true rfl]
      simp [pvD, PyData.eqv]
    | some p =>
      rw [decide_eq_false (fun z => nomatch z)]
      simp [pvD, spD, PyData.eqv]
section
variable {P : Program} {w : World} {K : PySem.W.Frag} {mg : Str → Option Value} {base : Heap}
theorem mate_eq {m m2 : Int} {S S2 : List Row} {p : Spot} : mate m S p = mate m2 S2 p ↔ ent m S p = ent m2 S2 p := by
  rw [mate_ent, mate_ent]
  constructor
  · intro h
    cases e1 : ent m S p with
    | none =>
      cases e2 : ent m2 S2 p with
      | none => rfl
      | some q => rw [e1, e2] at h; cases h
    | some q =>
      cases e2 : ent m2 S2 p with
      | none => rw [e1, e2] at h; cases h
      | some q2 =>
        rw [e1, e2] at h
        have h := Option.some.inj h
        obtain ⟨h1, h2⟩ := Prod.mk.inj h
        exact congrArg some (Prod.ext (by omega) h2)
  · intro h
    rw [h]
/-- what agrees over a common period and at the names at hand agrees everywhere -/
theorem same_all {a b : Nat} {S S2 : List Row} {ns : List Str} (g : Good (a : Int) S) (g2 : Good (b : Int) S2) (h1 : ∀ r ∈ S, r.1.2 ∈ ns) (h2 : ∀ r ∈ S2, r.1.2 ∈ ns)
    (h : ∀ i : Nat, i < a / Nat.gcd a b * b → ∀ n ∈ ns, ent a S ((i : Int), n) = ent b S2 ((i : Int), n)) (p : Spot) : ent a S p = ent b S2 p := by
  by_cases c : p.2 ∈ ns
  · have a1 := g.m1
    have b1 := g2.m1
    have gp : 0 < Nat.gcd a b := Nat.gcd_pos_of_pos_left b (by omega)
    have da : (a : Int) ∣ ((a / Nat.gcd a b * b : Nat) : Int) := Int.natCast_dvd_natCast.mpr (by
      obtain ⟨q, hq⟩ := Nat.gcd_dvd_right a b
      obtain ⟨r, hr⟩ := Nat.gcd_dvd_left a b
      refine ⟨q, ?_⟩
      have e : a / Nat.gcd a b = r := Nat.div_eq_of_eq_mul_right gp hr
      rw [e]
      calc r * b = r * (Nat.gcd a b * q) := by rw [← hq]
        _ = Nat.gcd a b * r * q := by rw [← Nat.mul_assoc, Nat.mul_comm r]
        _ = a * q := by rw [← hr])
    have db : (b : Int) ∣ ((a / Nat.gcd a b * b : Nat) : Int) := Int.natCast_dvd_natCast.mpr ⟨a / Nat.gcd a b, Nat.mul_comm _ _⟩
    have lp : 0 < a / Nat.gcd a b * b := Nat.mul_pos (Nat.div_pos (Nat.gcd_le_left b (by omega)) gp) (by omega)
    generalize a / Nat.gcd a b * b = L at h da db lp
    have c0 := Int.emod_nonneg p.1 (show (L : Int) ≠ 0 by omega)
    have c1 := Int.emod_lt_of_pos p.1 (show (0 : Int) < L by omega)
    obtain ⟨i, hi⟩ : ∃ i : Nat, p.1 % (L : Int) = i := ⟨(p.1 % (L : Int)).toNat, by omega⟩
    have z := h i (by omega) p.2 c
    rw [← hi] at z
    rw [show ent (a : Int) S p = ent (a : Int) S (p.1 % (L : Int), p.2) from ent_per _ _ p.1 _ p.2 (Int.emod_emod_of_dvd _ da).symm, show ent (b : Int) S2 p = ent (b : Int) S2 (p.1 % (L : Int), p.2) from ent_per _ _ p.1 _ p.2 (Int.emod_emod_of_dvd _ db).symm]
    exact z
  · have no : ∀ {m : Int} {T : List Row}, Good m T → (∀ r ∈ T, r.1.2 ∈ ns) → ent m T p = none := fun {m T} gt ht => by
      cases e : ent m T p with
      | none => rfl
      | some q =>
        obtain ⟨r, hr, e1, _⟩ := (ent_some gt).mp e
        have z := ht r hr
        rw [e1] at z
        exact absurd z c
    rw [no g h1, no g2 h2]
def spASm : Sp := fun vs H Q _ => ∃ (t1 t2 l d d2 : Addr) (a b : Nat) (S S2 : List Row) (ns : List Str), vs = [.ref t1, .ref t2, .ref l] ∧ H t1 = some (.tup [.int (a : Int), .ref d]) ∧ H t2 = some (.tup [.int (b : Int), .ref d2]) ∧ MT H d S ∧ MT H d2 S2 ∧ Good (a : Int) S ∧ Good (b : Int) S2 ∧
  H l = some (.lst (ns.map V.str)) ∧ (∀ r ∈ S, r.1.2 ∈ ns) ∧ (∀ r ∈ S2, r.1.2 ∈ ns) ∧ ns.length ≤ 5 ∧ ∀ (c : Bool) H', L2.Same H H' → (c = true ↔ ∀ p, ent (a : Int) S p = ent (b : Int) S2 p) → Q (.bl c) H'
theorem d_are_same (T : Txt K mg) : Df P w K mg base 2 "_law_are_same" ["_law_one", "_law_mate_here", "_law_labels"] spASm := by
  have D_l_common := d_common (P := P) (w := w) (base := base) T
  have D_l_mate := d_mate (P := P) (w := w) (base := base) T
  refine T.S_l_are_same.by sc_l_are_same (fun vs H Q E h => ?_) (fun f cdv A outer s H vs Q E hr hgd h => ?_)
  · obtain ⟨t1, t2, l, d, d2, a, b, S, S2, ns, rfl, _⟩ := h; rfl
  · obtain ⟨t1, t2, l, d, d2, a, b, S, S2, ns, rfl, ht1, ht2, mt, mt2, g, g2, hl, n1, n2, n5, k⟩ := h
    refine ⟨_, (pss_cons (ps_for PassesOwn.never rfl (pi_range1 (by rfl) T.n_range (pa_cons (pe_own D_l_common (hr.mono (by first | decide | omega)) hgd (pa_cons (pe_ix ix_tup (pv 0) pe_int (fun _ _ => rfl)) (pa_cons (pe_ix ix_tup (pv 1) pe_int (fun _ _ => rfl)) pa_nil))) pa_nil)) (pg_name (i := 3) sc_l_are_same.nd rfl (by first | exact Or.inl rfl | exact Or.inr rfl)) (pss_one (ps_for PassesOwn.never rfl (pi_list (pv 2)) (pg_name (i := 4) sc_l_are_same.nd rfl (by first | exact Or.inl rfl | exact Or.inr rfl)) (pss_one (ps_if (pt_cmpR (op_neD (un64 hr)) (pe_own D_l_mate (hr.mono (by first | decide | omega)) hgd (pa_cons (pe_ix ix_tup (pv 0) pe_int (fun _ _ => rfl)) (pa_cons (pe_ix ix_tup (pv 0) pe_int (fun _ _ => rfl)) (pa_cons (pv 3) (pa_cons (pv 4) pa_nil))))) (pe_own D_l_mate (hr.mono (by first | decide | omega)) hgd (pa_cons (pe_ix ix_tup (pv 1) pe_int (fun _ _ => rfl)) (pa_cons (pe_ix ix_tup (pv 1) pe_int (fun _ _ => rfl)) (pa_cons (pv 3) (pa_cons (pv 4) pa_nil))))) (nomark _)) (pss_one (ps_ret pe_bl)) pss_nil)))))
      (pss_one (ps_ret pe_bl))), ?_⟩
    have a1 := g.m1
    have b1 := g2.m1
    have a5 := g.m5
    have b5 := g2.m5
    refine ⟨_, rfl, t1, _, ((0 : Nat) : Int), .int (a : Int), rfl, rfl, SqT.of ht1, atI_nat rfl, _, rfl, t2, _, ((0 : Nat) : Int), .int (b : Int), rfl, rfl, SqT.of ht2, atI_nat rfl, ?_⟩
    refine ⟨a, b, rfl, by omega, by omega, by omega, by omega, ?_⟩
    have fin := same_all g g2 n1 n2
    have Lb : a / Nat.gcd a b * b ≤ 250000 := Nat.le_trans (Nat.mul_le_mul (Nat.le_trans (Nat.div_le_self a _) (show a ≤ 500 by omega)) (show b ≤ 500 by omega)) (by decide)
    generalize a / Nat.gcd a b * b = L at fin Lb ⊢
    refine ⟨(L : Int), rfl, by omega, by omega, ?_⟩
    refine for_it walk_range (fun i σ H' => ∃ s3 s4 : Option V, σ = [some (.ref t1), some (.ref t2), some (.ref l), s3, s4] ∧ L2.Same H H' ∧ ∀ j : Nat, j < i → ∀ n ∈ ns, ent a S ((j : Int), n) = ent b S2 ((j : Int), n))
      ⟨_, _, rfl, Same.refl _, fun j h => absurd h (Nat.not_lt_zero j)⟩ (fun _ _ _ _ _ => trivial) (fun i x σ J J2 hi hP yy => ?_) (fun σ J hP => ?_)
    · obtain ⟨s3, s4, rfl, sJ, al⟩ := hP
      obtain ⟨rfl, rfl⟩ := yy
      show gName 3 (V.int (0 + (i : Int))) _ _ _
      rw [Int.zero_add]
      have hlJ := sJ _ _ hl
      refine ⟨_, rfl, l, rfl, ⟨_, SqL.of hlJ⟩, ?_⟩
      refine for_it (walk_list (xs := ns.map V.str)) (fun n σ H' => ∃ s4 : Option V, σ = [some (.ref t1), some (.ref t2), some (.ref l), some (.int (i : Int)), s4] ∧ L2.Same H H' ∧ ∀ z ∈ ns.take n, ent a S ((i : Int), z) = ent b S2 ((i : Int), z))
        ⟨_, rfl, sJ, fun z hz => (nomatch hz)⟩ (fun n σ H' _ q => by obtain ⟨_, _, s, _⟩ := q; exact SqL.of (s _ _ hl)) (fun n x σ J3 J4 hn hP yy => ?_) (fun σ J3 hP => ?_)
      · obtain ⟨s4, rfl, s3', al2⟩ := hP
        obtain ⟨rfl, hx⟩ := yy
        rw [List.getElem?_map] at hx
        obtain ⟨nm, hnm, rfl⟩ := Option.map_eq_some_iff.mp hx
        have tkn : ns.take (n + 1) = ns.take n ++ [nm] := by rw [List.take_add_one, hnm]; rfl
        refine ⟨_, rfl, t1, _, ((0 : Nat) : Int), .int (a : Int), rfl, rfl, SqT.of (s3' _ _ ht1), atI_nat rfl, _, rfl, t1, _, ((1 : Nat) : Int), .ref d, rfl, rfl, SqT.of (s3' _ _ ht1), atI_nat rfl, _, rfl, _, rfl, d, (a : Int), S, (i : Int), nm, rfl, mt.same s3', a1, fun v J5 s5 pv5 => ?_⟩
        have t5 := s3'.trans s5
        refine ⟨_, rfl, t2, _, ((0 : Nat) : Int), .int (b : Int), rfl, rfl, SqT.of (t5 _ _ ht2), atI_nat rfl, _, rfl, t2, _, ((1 : Nat) : Int), .ref d2, rfl, rfl, SqT.of (t5 _ _ ht2), atI_nat rfl, _, rfl, _, rfl, d2, (b : Int), S2, (i : Int), nm, rfl, mt2.same t5, b1, fun v2 J6 s6 pv6 => ?_⟩
        have t6 := t5.trans s6
        have pv5' := pv5.same s6
        have wdm : ∀ {m : Int} {R : List Row} (gm : Good m R) (s : Spot), mate m R ((i : Int), nm) = some s → Wd s.2 := fun gm s e => by
          rw [mate_ent] at e
          obtain ⟨q, hq, rfl⟩ := Option.map_eq_some_iff.mp e
          obtain ⟨r, hr, _, rfl⟩ := (ent_some gm).mp hq
          exact (gm.go r hr).2.2
        refine ⟨_, _, pv5'.dp, pv6.dp, pvD_sh (wdm g), pvD_sh (wdm g2), ?_⟩
        rw [eqv_pp]
        by_cases c : mate (a : Int) S ((i : Int), nm) = mate (b : Int) S2 ((i : Int), nm)
        · rw [decide_eq_true c]
          refine ⟨false, rfl, iteF ?_⟩
          refine ⟨_, rfl, t6, fun z hz => ?_⟩
          rw [tkn] at hz
          rcases List.mem_append.mp hz with hz | hz
          · exact al2 z hz
          · rw [List.mem_singleton.mp hz]; exact mate_eq.mp c
        · rw [decide_eq_false c]
          refine ⟨true, rfl, iteT ?_⟩
          exact k false _ t6 ⟨fun z => (nomatch z), fun z => absurd (mate_eq.mpr (z _)) c⟩
      · obtain ⟨s4, rfl, s3', al2⟩ := hP
        rw [List.length_map, List.take_length] at al2
        refine ⟨_, _, rfl, s3', fun j hj => ?_⟩
        by_cases c : j = i
        · rw [c]; exact al2
        · exact al j (by omega)
    · obtain ⟨s3, s4, rfl, sJ, al⟩ := hP
      exact k true _ sJ ⟨fun _ => fin fun i hi => al i (by omega), fun _ => rfl⟩
end
end K63

set_option Elab.async false
set_option linter.all false
set_option maxHeartbeats 1000000
/-! a dict display whose keys are tuples -/
namespace Lay
open PySem L2 PyProof.Rows
abbrev Tk := List Key × Addr × V
/-- stored one by one, from the left -/
def laidT : List (List Key × V) → List Tk → List (List Key × V)
  | acc, [] => acc
  | acc, p :: r => laidT (putK acc p.1 p.2.2) r
theorem laidT_len : ∀ (ps : List Tk) (acc : List (List Key × V)), (laidT acc ps).length ≤ acc.length + ps.length
  | [], acc => by show acc.length ≤ _; simp
  | p :: r, acc => by
    have h1 := laidT_len r (putK acc p.1 p.2.2)
    have h2 := length_putK acc p.1 p.2.2
    rw [List.length_cons]
    show (laidT (putK acc p.1 p.2.2) r).length ≤ _
    omega
theorem laidT_rel {H : Hp} {ps : List Tk} {qs : List (List Key × Addr × Value)} (h : Paired (fun p q => p.1 = q.1 ∧ p.2.1 = q.2.1 ∧ H p.2.1 = some (.tup (p.1.map kV)) ∧ RelV p.2.2 q.2.2) ps qs) :
    ∀ {acc : List (List Key × V)} {xs : List (List Key × Addr × Value)}, KT H acc xs → KT H (laidT acc ps) (storedAllH xs qs) := by
  induction h with
  | nil => intro _ _ r; exact r
  | @cons p q ps qs e _ ih =>
    intro acc xs r
    obtain ⟨e1, e2, e3, e4⟩ := e
    have z : KT H (putK acc p.1 p.2.2) (storedH xs q.1 q.2.1 q.2.2) := by
      rw [← e1]
      exact r.put p.1 (by rw [← e2]; exact e3) e4
    exact ih z
def tDispT (trs : List (TE × TE)) : TE := fun σ H Q => ∀ d, H d = none → tPairs trs σ (upd H d (.dT [])) fun ps H2 => H2 d = some (.dT []) ∧ ∃ ks : List Tk, ps = ks.map (fun p => (V.ref p.2.1, p.2.2)) ∧
  (∀ p ∈ ks, H2 p.2.1 = some (.tup (p.1.map kV))) ∧ ks.length ≤ 15 ∧ Q (.ref d) (upd H2 d (.dT (laidT [] ks)))
theorem carriesT {P : Program} {w : World} {H : Hp} {h : Heap} (ok : HOk P w H h) : ∀ {ks : List Tk} {ws : List (Value × Value)}, (∀ p ∈ ks, H p.2.1 = some (.tup (p.1.map kV))) → VV (ks.map fun p => (V.ref p.2.1, p.2.2)) ws →
    ∃ qs, CarriesH (tupleKind (mixKind P w)) h ws qs ∧ Paired (fun p q => p.1 = q.1 ∧ p.2.1 = q.2.1 ∧ H p.2.1 = some (.tup (p.1.map kV)) ∧ RelV p.2.2 q.2.2) ks qs
  | [], _, _, r => by cases r; exact ⟨[], trivial, .nil⟩
  | p :: ks, _, hk, r => by
    rw [List.map_cons] at r
    cases r with
    | @cons _ u _ us e t =>
      obtain ⟨qs, c, q⟩ := carriesT ok (fun y hy => hk y (List.mem_cons_of_mem _ hy)) t
      have hp := hk p (List.mem_cons_self ..)
      obtain ⟨u1, u2⟩ := u
      obtain rfl : u1 = Value.ref p.2.1 := e.1
      exact ⟨(p.1, p.2.1, u2) :: qs, ⟨rfl, rfl, key_of ok hp, c⟩, .cons ⟨rfl, rfl, hp, e.2⟩ q⟩
theorem pe_dispT {X : Cx} {pos : Pos} {keys : List (Option Expr)} {values : List Expr} {trs : List (TE × TE)} (hu : (tupleKind (mixKind X.prog X.w)).room X.A) (h : PPs X pos keys values trs) (hall : keys.all (·.isSome) = true) (hl : keys.length = values.length)
    (h0 : keys ≠ []) (h15 : keys.length ≤ 15) : PE X (.Dict keys values pos) (tDispT trs) := by
  refine ⟨fun pins s σ H Q I q => ?_⟩
  have len := pairTrees_length keys values X.env pos hall hl
  have ne : pairTrees keys values X.env pos ≠ [] := fun z => h0 (List.length_eq_zero_iff.mp (by rw [← len, z]; rfl))
  have hn := I.hok.fresh (Nat.le_refl s.heap.objs.size)
  have I1 := I.laid (a := s.heap.objs.size) (o := .dT []) (h' := s.heap.push { cls := .type "dict", data := .dict #[] }) (t' := s.toks) (fun _ _ q => Heap.get?_push_of_some _ q) (Nat.le_refl _) (dt_empty s.heap I.big)
  rw [arm_eval_Dict, zip_pairTrees keys values X.env pos hall hl, dictDisplay_pairs _ ne (by omega)]
  refine wpAny_bind (wpAny_standAt (wpAny_bind ?_))
  refine wpAny_subDictH (knd := tupleKind (mixKind X.prog X.w)) (Q := fun d s' => wpAny (model X.prog X.w) X.A (pure (Value.ref d)) _ _ s') hu (by omega) ?_
  refine thn (h.run pins _ σ _ _ I1 (q _ hn)) fun ws s2 ⟨ps, H2, I2, rel, e, ks, ep, hk, lk, q2⟩ => ?_
  subst ep
  obtain ⟨qs, c, pr⟩ := carriesT I2.hok hk rel
  obtain ⟨z, hd, vs0, r0, dd⟩ := dt_of I2.hok e
  cases r0
  refine ⟨qs, c, dd, fun h' tk dd' hs => wpAny_pure ⟨.ref s.heap.objs.size, _, ?_, rfl, q2⟩⟩
  have lz : (laidT [] ks).length ≤ sizeLine := by
    have h1 := laidT_len ks []
    rw [List.length_nil] at h1
    rw [sizeLine_eq]; omega
  have rk : KT H2 (laidT [] ks) (storedAllH [] qs) := laidT_rel pr .nil
  obtain ⟨o, es, ep, g1, g2, g3, g4, _, g5⟩ := dd'
  refine d_write I2 (by rw [e]; exact True.intro) hs ⟨o, g1⟩ ⟨lz, hd, _, rk.keeps fun c ys ec => ?_, o, es, ep, g1, g2, g3, g4, g5⟩
  rw [upd_ne (ne_of ec e (fun z => nomatch z))]
  exact ec
end Lay

set_option Elab.async false
set_option linter.all false
set_option maxRecDepth 100000
set_option maxHeartbeats 4000000
namespace K63
open PySem L2 Lay Own SrtO Tv Ow
local macro_rules | `(tactic| walk_at "ne") => `(tactic| first | assumption | (apply Ne.symm; assumption) | exact ne_of_none (by walk_at "look") (by assumption) | exact (ne_of_none (by walk_at "look") (by assumption)).symm)
local macro_rules | `(tactic| walk_at "look") => `(tactic| first | assumption | exact upd_same | (refine Eq.trans (upd_ne ?_) ?_; walk_at "ne"; walk_at "look"))
local macro_rules | `(tactic| walk_at "rds") => `(tactic| first | rfl | assumption | walk_at "look" | exact SqL.of (by walk_at "look") | exact SqT.of (by walk_at "look") | exact Or.inl (SqL.of (by walk_at "look")) | exact Or.inl (by assumption) | decide | omega | exact Nat.le_of_ble_eq_true rfl | exact Or.inr ⟨by decide, by decide⟩ | exact Or.inl ⟨by omega, by omega⟩ | exact ⟨by decide, by decide⟩)
local macro_rules | `(tactic| walk_at "rd1") => `(tactic| first | (apply Exists.intro) | (refine And.intro ?_ ?_; walk_at "rds") | (refine Or.inl ?_; apply Exists.intro; refine And.intro ?_ ?_; rfl))
local macro_rules | `(tactic| walk_at "rd") => `(tactic| repeat walk_at "rd1")
theorem un8 {k : Nat} {B : Around} (hr : Room k B) : B.units + 8 < cLine := by
  have := hr.un
  omega
section
variable {P : Program} {w : World} {K : PySem.W.Frag} {mg : Str → Option Value} {base : Heap}
theorem pr_rows {H : Hp} {xs : List V} {S : List Row} (h : Paired (PR H) xs S) : ∃ as, xs = as.map V.ref ∧ Paired (PrT H) as (S.map fun r => (tk r.1, V.ref r.2.1)) := by
  induction h with
  | nil => exact ⟨[], rfl, .nil⟩
  | cons e _ ih =>
    obtain ⟨as, e1, e2⟩ := ih
    obtain ⟨t, k, rfl, h1, h2⟩ := e
    exact ⟨t :: as, by rw [e1]; rfl, .cons ⟨k, h1, h2⟩ e2⟩
theorem keys_nd {S : List Row} (nd : (S.map (·.1)).Nodup) : ((S.map fun r => (tk r.1, V.ref r.2.1)).map (·.1)).Nodup := by
  rw [List.map_map]
  rw [List.nodup_iff_pairwise_ne, List.pairwise_map] at *
  exact List.Pairwise.imp (fun {a b} h e => h (tk_inj e)) nd
def spTrn : Sp := fun vs H Q _ => ∃ d m k S, vs = [.int m, .ref d, .int k] ∧ MT H d S ∧ Good m S ∧ S.length ≤ 50000 ∧ ∀ t e H', L2.Same H H' → H' t = some (.tup [.int m, .ref e]) → MT H' e (S.map (shR m k)) → Q (.ref t) H'
theorem d_turned (T : Txt K mg) : Df P w K mg base 1 "_law_turned" ["_law_span", "_law_mates_here", "_law_by"] spTrn := by
  refine T.S_l_turned.by sc_l_turned (fun vs H Q E h => ?_) (fun f cdv A outer s H vs Q E hr hgd h => ?_)
  · obtain ⟨d, m, k, S, rfl, _⟩ := h; rfl
  · obtain ⟨d, m, st, S, rfl, mt, g, lS, k⟩ := h
    refine ⟨_, (pss_one (ps_ret (pe_tup (pa_cons (pv 0) (pa_cons (pe_callTy  (call_dictPT rfl (un8 hr)) (by rfl) T.n_dict (by decide +kernel) (pa_cons (pe_lock (pe_lc (own := [("_law_at", 3), ("_law_label", 4)]) rfl sc_l_turned.nd (pi_keys (pv 1)) (blkOk_by (own := [("_law_at", 3), ("_law_label", 4)]) (N := ["_law_span", "_law_mates_here", "_law_by", "_law_at", "_law_label"]) (sc := defScope s_l_turned) (by decide +kernel)) (fun _ _ _ _ _ => (pg_tupK (K := K) (n := 2) rfl rfl (pgs_cons (pg_name (i := 3) sc_l_turned.nd rfl (by first | exact Or.inl rfl | exact Or.inr rfl)) (pgs_cons (pg_name (i := 4) sc_l_turned.nd rfl (by first | exact Or.inl rfl | exact Or.inr rfl)) pgs_nil)))) (fun _ _ _ _ _ => pts_nil) (fun _ _ _ _ _ => (pe_tup (pa_cons (pe_tup (pa_cons (pe_op op_mod (pe_callTy call_int1 (by rfl) T.n_int (by decide +kernel) (pa_cons (pe_op op_add (pv 3) (pv 2)) pa_nil)) (pv 0)) (pa_cons (pv 4) pa_nil))) (pa_cons (pe_dget (hu_of hr) (pv 1) (pe_tup (pa_cons (pv 3) (pa_cons (pv 4) pa_nil))) (fun _ _ => rfl)) pa_nil)))))) pa_nil)) pa_nil))))), ?_⟩
    have m1 := g.m1
    refine ⟨_, rfl, d, .dT _, mt.1, trivial, fun od => ?_⟩
    have fz : (upd H d (.frz od (.dT (S.map fun r => (tk r.1, V.ref r.2.1))))) d = some (.frz od (.dT (S.map fun r => (tk r.1, V.ref r.2.1)))) := upd_same
    have unl : ∀ {G2 : Hp}, L2.Same (upd H d (.frz od (.dT (S.map fun r => (tk r.1, V.ref r.2.1))))) G2 → L2.Same H (upd G2 d (.dT (S.map fun r => (tk r.1, V.ref r.2.1)))) := fun s => lock_same mt.1 s
    generalize upd H d (.frz od (.dT (S.map fun r => (tk r.1, V.ref r.2.1)))) = F at fz unl ⊢
    refine ⟨_, rfl, d, od, rfl, .inr ⟨_, fz, fun D nD => ?_⟩⟩
    refine lc_fil (walk_keysT (kvs := S.map fun r => (tk r.1, V.ref r.2.1))) nD (by rw [List.length_map]; omega) (fun _ sm => sm _ _ fz) (fun j => S[j]?.bind fun r => some (shR m st r)) PR
      (fun H H' v c s h => h.same s) (fun H xs ys v c hD h => h.mut hD) (fun j x H5 H6 Kn Z hj sm _ y q n => ?_) (fun H5 zs sm hD hp5 => ?_)
    · obtain ⟨rfl, kk, vv, qq, hkv, rfl, hq⟩ := y
      rw [List.length_map] at hj
      have hri : S[j]? = some S[j] := List.getElem?_eq_getElem hj
      rw [List.getElem?_map, hri] at hkv
      cases hkv
      rw [hri, Option.bind_some] at q n
      have hq_ : S[j] ∈ S := List.getElem_mem hj
      generalize S[j] = r at hri hq hq_ q n
      refine ⟨qq, _, rfl, SqT.of hq, rfl, _, _, rfl, _, _, rfl, rfl, rfl, ?_⟩
      refine ⟨_, rfl, _, rfl, r.1.1, st, rfl, rfl, .inl ⟨r.1.1 + st, rfl, _, rfl, r.1.1 + st, m, rfl, rfl, by omega, _, rfl, by show (2 : Nat) ≤ sizeLine; decide +kernel, fun u nu => ?_⟩⟩
      have s1 := Same.new (o := .tup [V.int ((r.1.1 + st) % m), V.str r.1.2]) nu
      have hu := (upd_same : (upd H6 u (.tup [V.int ((r.1.1 + st) % m), V.str r.1.2])) u = _)
      refine ⟨_, rfl, _, rfl, _, rfl, by show (2 : Nat) ≤ sizeLine; decide +kernel, fun u2 nu2 => ?_⟩
      have s2 := Same.new (o := .tup [V.int r.1.1, V.str r.1.2]) nu2
      have s12 := s1.trans s2
      refine ⟨d, .ref r.2.1, rfl, .inr ⟨_, tk r.1, u2, .inr ⟨od, s12 _ _ (sm _ _ fz)⟩, rfl, upd_same, (row_val g.nd hq_).symm⟩, by show (2 : Nat) ≤ sizeLine; decide +kernel, fun t nt => ?_⟩
      exact q _ _ _ rfl (s12.trans (Same.new nt)) ⟨t, u, rfl, upd_same, Same.new nt _ _ (s2 _ _ hu)⟩
    · have fzz := sm _ _ fz
      refine ⟨fzz, ?_⟩
      have tG := unl sm
      rw [List.length_map, range_fil] at hp5
      have el : S.filterMap (fun r => some (shR m st r)) = S.map (shR m st) := by
        rw [List.filterMap_eq_map']
      rw [el] at hp5
      have hpG : Paired (PR (upd H5 d (.dT (S.map fun r => (tk r.1, V.ref r.2.1))))) zs (S.map (shR m st)) := L2.Paired.mapP hp5 fun v q h => by
        obtain ⟨t, k, e, h1, h2⟩ := h
        exact ⟨t, k, e, (upd_ne fun z => by rw [z, fzz] at h1; cases h1).trans h1, (upd_ne fun z => by rw [z, fzz] at h2; cases h2).trans h2⟩
      have hDG : (upd H5 d (.dT (S.map fun r => (tk r.1, V.ref r.2.1)))) D = some (.lst zs) := (upd_ne fun z => by rw [z, fzz] at hD; cases hD).trans hD
      generalize upd H5 d (.dT (S.map fun r => (tk r.1, V.ref r.2.1))) = G1 at tG hpG hDG ⊢
      obtain ⟨as1, rfl, pa1⟩ := pr_rows hpG
      have g2 := sh_good (s := st) g (List.Perm.refl S)
      refine ⟨D, as1, _, rfl, SqL.of hDG, pa1, keys_nd g2.nd, fun e ne => ?_⟩
      have sd := Same.new (o := .dT ((S.map (shR m st)).map fun r => (tk r.1, V.ref r.2.1))) ne
      have mtd : MT (upd G1 e (.dT ((S.map (shR m st)).map fun r => (tk r.1, V.ref r.2.1)))) e (S.map (shR m st)) := ⟨upd_same, fun q hq => by
        obtain ⟨z, hz, rfl⟩ := List.mem_map.mp hq
        exact (tG.trans sd) _ _ (mt.2 z hz)⟩
      refine ⟨by show (2 : Nat) ≤ sizeLine; decide +kernel, fun t nt => ?_⟩
      have st2 := Same.new (o := .tup [V.int m, V.ref e]) nt
      exact k t e _ (tG.trans (sd.trans st2)) upd_same (mtd.same st2)
end
end K63

set_option Elab.async false
set_option linter.all false
set_option maxRecDepth 100000
set_option maxHeartbeats 4000000
namespace K63
open PySem L2 Lay Own SrtO Tv Ow
local macro_rules | `(tactic| walk_at "ne") => `(tactic| first | assumption | (apply Ne.symm; assumption) | exact ne_of_none (by walk_at "look") (by assumption) | exact (ne_of_none (by walk_at "look") (by assumption)).symm)
local macro_rules | `(tactic| walk_at "look") => `(tactic| first | assumption | exact upd_same | (refine Eq.trans (upd_ne ?_) ?_; walk_at "ne"; walk_at "look"))
local macro_rules | `(tactic| walk_at "rds") => `(tactic| first | rfl | assumption | walk_at "look" | exact SqL.of (by walk_at "look") | exact SqT.of (by walk_at "look") | exact Or.inl (SqL.of (by walk_at "look")) | exact Or.inl (by assumption) | decide | omega | exact Nat.le_of_ble_eq_true rfl | exact Or.inr ⟨by decide, by decide⟩ | exact Or.inl ⟨by omega, by omega⟩ | exact ⟨by decide, by decide⟩)
local macro_rules | `(tactic| walk_at "rd1") => `(tactic| first | (apply Exists.intro) | (refine And.intro ?_ ?_; walk_at "rds") | (refine Or.inl ?_; apply Exists.intro; refine And.intro ?_ ?_; rfl))
local macro_rules | `(tactic| walk_at "rd") => `(tactic| repeat walk_at "rd1")
theorem op_notInDK {cx : Cx} {C : PySem.W.Frag} (h : cx.K = C) (hu : cx.A.units + 65 < cLine) : OpR cx (compareOp .NotIn) (rNotInD C) := h ▸ op_notInD hu
theorem un66 {k : Nat} {B : Around} (hr : Room k B) : B.units + 65 < cLine := by
  have := hr.un
  omega
section
variable {P : Program} {w : World} {K : PySem.W.Frag} {mg : Str → Option Value} {base : Heap}
theorem spD_eq {p q : Spot} : PyData.eqv (spD p) (spD q) = decide (q = p) := by
  have z := spD_ne (p := p) (q := q)
  by_cases c : q = p
  · rw [decide_eq_true c]
    rw [decide_eq_false (fun h => h c.symm)] at z
    simpa using z
  · rw [decide_eq_false c]
    rw [decide_eq_true (show p ≠ q from fun h : p = q => c h.symm)] at z
    simpa using z
def without (m : Int) (r : Row) (R : List Row) : List Row := R.filter fun q => !(decide (q.1 = r.1) || decide (q.1 = ((r.1.1 + r.2.2.1) % m, r.2.2.2)))
theorem without_ok {m : Int} {ns : List Str} {R : List Row} {r : Row} (ok : MOk m ns R) (m1 : 1 ≤ m) (hr : r ∈ R) : MOk m ns (without m r R) ∧ (without m r R).length < R.length := by
  have mem : ∀ q, q ∈ without m r R ↔ q ∈ R ∧ q.1 ≠ r.1 ∧ q.1 ≠ ((r.1.1 + r.2.2.1) % m, r.2.2.2) := fun q => by
    unfold without
    rw [List.mem_filter]
    simp
  refine ⟨⟨?_, fun q hq => ok.at_ q ((mem q).mp hq).1, fun q hq => ok.go q ((mem q).mp hq).1, fun q hq => ?_, fun q hq => ok.ne q ((mem q).mp hq).1⟩, ?_⟩
  · exact List.Pairwise.sublist (List.Sublist.map _ List.filter_sublist) ok.nd
  · obtain ⟨h1, h2, h3⟩ := (mem q).mp hq
    obtain ⟨p, hp, e1, e2⟩ := ok.back q h1
    obtain ⟨b0, b1, _⟩ := ok.at_ q h1
    obtain ⟨c0, c1, _⟩ := ok.at_ r hr
    refine ⟨p, (mem p).mpr ⟨hp, fun z => ?_, fun z => ?_⟩, e1, e2⟩
    · have e := key_row ok.nd hp hr z
      rw [e] at e1 e2
      apply h3
      rw [e1, e2]
      refine Prod.ext ?_ rfl
      show q.1.1 = ((q.1.1 + q.2.2.1) % m + -q.2.2.1) % m
      rw [Int.emod_add_emod, show q.1.1 + q.2.2.1 + -q.2.2.1 = q.1.1 by omega, Int.emod_eq_of_lt b0 b1]
    · obtain ⟨p2, hp2, f1, f2⟩ := ok.back r hr
      have e := key_row ok.nd hp hp2 (z.trans f1.symm)
      rw [← e, e2] at f2
      have g1 : -q.2.2.1 = -r.2.2.1 := (Prod.mk.inj f2).1
      have g2 : q.1.2 = r.1.2 := (Prod.mk.inj f2).2
      have g3 : (q.1.1 + q.2.2.1) % m = (r.1.1 + r.2.2.1) % m := congrArg Prod.fst (e1.symm.trans z)
      have g4 : q.2.2.1 = r.2.2.1 := by omega
      apply h2
      refine Prod.ext ?_ g2
      rw [g4] at g3
      have g5 := (Int.emod_add_cancel_right r.2.2.1).mp (show (q.1.1 + r.2.2.1) % m = (r.1.1 + r.2.2.1) % m from g3)
      rwa [Int.emod_eq_of_lt b0 b1, Int.emod_eq_of_lt c0 c1] at g5
  · refine Nat.lt_of_le_of_ne (List.length_filter_le _ _) fun z => ?_
    have e : without m r R = R := (List.filter_sublist (l := R)).eq_of_length z
    have h := (mem r).mp (by rw [e]; exact hr)
    exact h.2.1 rfl
theorem spDs_sh {p q : Spot} (h1 : PyData.strOk p.2 = true) (h2 : PyData.strOk q.2 = true) : SeqAt.shaped (.list [spD p, spD q]) = true := by
  show (PyData.canLay0 (.list [spD p, spD q]) && decide (PyData.depth (.list [spD p, spD q]) ≤ 64)) = true
  unfold spD
  simp [PyData.canLay0, PyData.canLayAll0, PyData.depth, PyData.depthAll, h1, h2]
def keepQ (a b : Spot) (q : Row) : Bool := !(decide (q.1 = a) || decide (q.1 = b))
theorem any2 {a b : Spot} {q : Row} : (!([spD a, spD b].any fun z => PyData.eqv z (spD q.1))) = keepQ a b q := by
  simp only [List.any_cons, List.any_nil, Bool.or_false, spD_eq]
  rfl
def spLess : Sp := fun vs H Q _ => ∃ p d m ns S, vs = [.ref p, .int m, .ref d] ∧ H p = some (PotO p) ∧ MT H d S ∧ MOk m ns S ∧ NsOk ns ∧ 1 ≤ m ∧ m ≤ 500 ∧ S.length ≤ 50000 ∧ ∀ t e S2 H', L2.Same H H' → H' t = some (.tup [.int m, .ref e]) → MT H' e S2 → MOk m ns S2 → S2.length ≤ S.length → Q (.ref t) H'
theorem d_less (T : Txt K mg) : Df P w K mg base 3 "_law_less" ["_law_pot_here", "_law_span", "_law_mates_here"] spLess := by
  have D_l_pick := d_among (P := P) (w := w) (base := base) T
  refine T.S_l_less.by sc_l_less (fun vs H Q E h => ?_) (fun f cdv A outer s H vs Q E hr hgd h => ?_)
  · obtain ⟨p, d, m, ns, S, rfl, _⟩ := h; rfl
  · obtain ⟨p, d, m, ns, S, rfl, hp, mt, ok, nok, m1, m5, lS, k⟩ := h
    refine ⟨_, (pss_cons (ps_if (pt_cmpR (op_eqT (un70 hr)) (pv 2) (pe_dnewT) (nomark _)) (pss_one (ps_ret (pe_tup (pa_cons (pv 1) (pa_cons (pe_dnewT) pa_nil))))) pss_nil)
      (pss_cons (ps_set (i := 3) sc_l_less.nd rfl (by first | exact Or.inl rfl | exact Or.inr rfl) (pe_own D_l_pick (hr.mono (by first | decide | omega)) hgd (pa_cons (pv 0) (pa_cons (pe_callTy  (call_list_dT rfl) (by rfl) T.n_list (by decide +kernel) (pa_cons (pv 2) pa_nil)) pa_nil))))
      (pss_cons (ps_asg (pe_dget (hu_of hr) (pv 2) (pv 3) (fun _ _ => rfl)) (pg_tup rfl (pgs_cons (pg_name (i := 4) sc_l_less.nd rfl (by first | exact Or.inl rfl | exact Or.inr rfl)) (pgs_cons (pg_name (i := 5) sc_l_less.nd rfl (by first | exact Or.inl rfl | exact Or.inr rfl)) pgs_nil))))
      (pss_cons (ps_set (i := 6) sc_l_less.nd rfl (by first | exact Or.inl rfl | exact Or.inr rfl) (pe_lst (pa_cons (pv 3) (pa_cons (pe_tup (pa_cons (pe_op op_mod (pe_callTy call_int1 (by rfl) T.n_int (by decide +kernel) (pa_cons (pe_op op_add (pe_ix ix_tup (pv 3) pe_int (fun _ _ => rfl)) (pv 4)) pa_nil)) (pv 1)) (pa_cons (pv 5) pa_nil))) pa_nil))))
      (pss_one (ps_ret (pe_tup (pa_cons (pv 1) (pa_cons (pe_callTy  (call_dictPT rfl (un8 hr)) (by rfl) T.n_dict (by decide +kernel) (pa_cons (pe_lock (pe_lc (own := [("_law_near", 7)]) rfl sc_l_less.nd (pi_keys (pv 2)) (blkOk_by (own := [("_law_near", 7)]) (N := ["_law_pot_here", "_law_span", "_law_mates_here", "_law_spot", "_law_gap", "_law_label", "_law_pair", "_law_near"]) (sc := defScope s_l_less) (by decide +kernel)) (fun _ _ _ _ _ => (pg_name (i := 7) sc_l_less.nd rfl (by first | exact Or.inl rfl | exact Or.inr rfl))) (fun _ _ _ _ _ => pts_one (pt_cmpR (op_notInDK (C := K) rfl (un66 hr)) (pv 7) (pv 6) (by rfl))) (fun _ _ _ _ _ => (pe_tup (pa_cons (pv 7) (pa_cons (pe_dget (hu_of hr) (pv 2) (pv 7) (fun _ _ => rfl)) pa_nil)))))) pa_nil)) pa_nil))))))))), ?_⟩
    have mok0 : MOk m ns [] := ⟨List.nodup_nil, (fun r hr => nomatch hr), (fun r hr => nomatch hr), (fun r hr => nomatch hr), (fun r hr => nomatch hr)⟩
    by_cases hR : S = []
    · refine ⟨_, rfl, fun z nz => ⟨d, z, _, [], rfl, rfl, .inl ((Same.new nz) _ _ mt.1), .inl upd_same, .inr ⟨by rw [hR]; rfl, (fun q hq => by rw [hR] at hq; cases hq), true, rfl, iteT ?_⟩⟩⟩
      have s1 := Same.new (o := .dT []) nz
      refine ⟨_, rfl, fun e ne => ?_⟩
      have s2 := Same.new (o := .dT []) ne
      refine ⟨by show (2 : Nat) ≤ sizeLine; decide +kernel, fun t nt => ?_⟩
      have s3 := Same.new (o := .tup [V.int m, V.ref e]) nt
      exact k t e [] _ (s1.trans (s2.trans s3)) upd_same ⟨s3 _ _ upd_same, fun r hr => nomatch hr⟩ mok0 (Nat.zero_le _)
    · have lS0 : S.length ≠ 0 := fun z => hR (List.length_eq_zero_iff.mp z)
      refine ⟨_, rfl, fun z nz => ⟨d, z, _, [], rfl, rfl, .inl ((Same.new nz) _ _ mt.1), .inl upd_same, .inl ⟨by rw [List.length_map]; exact lS0, false, rfl, iteF ?_⟩⟩⟩
      have t7 := Same.new (o := .dT []) nz
      have mt7 := mt.same t7
      generalize upd H z (.dT []) = J7 at t7 mt7 ⊢
      refine ⟨_, rfl, _, rfl, d, _, rfl, .inl mt7.1, fun q bs nq keys => ?_⟩
      have s8 := Same.new (o := .lst (bs.map V.ref)) nq
      have lb : S.length = bs.length := by
        have z := Paired.length keys
        rwa [List.length_map] at z
      refine ⟨p, q, bs.map V.ref, rfl, s8 _ _ (t7 _ _ hp), SqL.of upd_same, by rw [List.length_map]; omega, by rw [List.length_map]; omega, fun y G hy s9 => ?_⟩
      obtain ⟨bq, hbq, rfl⟩ := List.mem_map.mp hy
      obtain ⟨r, hr_, hkq⟩ : ∃ r ∈ S, J7 bq = some (.tup [.int r.1.1, .str r.1.2]) := by
        obtain ⟨j, hj⟩ := List.mem_iff_getElem?.mp hbq
        obtain ⟨kv, h1, h2⟩ := L2.DX.pget keys hj
        rw [List.getElem?_map] at h1
        obtain ⟨r, h3, h4⟩ := Option.map_eq_some_iff.mp h1
        rw [← h4] at h2
        exact ⟨r, List.mem_of_getElem? h3, h2⟩
      have t9 := t7.trans (s8.trans s9)
      have mt9 := mt.same t9
      have hk9 := (s8.trans s9) _ _ hkq
      refine ⟨_, rfl, _, rfl, d, .ref r.2.1, rfl, .inr ⟨_, tk r.1, bq, .inl mt9.1, rfl, hk9, (row_val ok.nd hr_).symm⟩, r.2.1, _, rfl, SqT.of (mt9.2 r hr_), rfl, _, _, rfl, _, _, rfl, rfl, ?_⟩
      have b0 : 0 < m := by omega
      refine ⟨_, rfl, _, rfl, bq, _, 0, _, rfl, rfl, SqT.of hk9, rfl, _, rfl, r.1.1, r.2.2.1, rfl, rfl, .inl ⟨r.1.1 + r.2.2.1, rfl, _, rfl, r.1.1 + r.2.2.1, m, rfl, rfl, b0, _, rfl, by show (2 : Nat) ≤ sizeLine; decide +kernel, fun u nu => ⟨by show (2 : Nat) ≤ sizeLine; decide +kernel, fun wq nw => ?_⟩⟩⟩
      have sA := Same.new (o := .tup [V.int ((r.1.1 + r.2.2.1) % m), V.str r.2.2.2]) nu
      have sB := Same.new (o := .lst [V.ref bq, V.ref u]) nw
      have tB := t9.trans (sA.trans sB)
      have hw := (upd_same : (upd (upd G u (.tup [V.int ((r.1.1 + r.2.2.1) % m), V.str r.2.2.2])) wq (.lst [V.ref bq, V.ref u])) wq = _)
      have hu := sB _ _ (upd_same : (upd G u (.tup [V.int ((r.1.1 + r.2.2.1) % m), V.str r.2.2.2])) u = _)
      have hkB := (sA.trans sB) _ _ hk9
      generalize upd (upd G u (.tup [V.int ((r.1.1 + r.2.2.1) % m), V.str r.2.2.2])) wq (.lst [V.ref bq, V.ref u]) = JB at sB tB hw hu hkB ⊢
      have mtB := mt.same tB
      refine ⟨_, rfl, d, .dT _, mtB.1, trivial, fun od => ⟨_, rfl, d, od, rfl, .inr ⟨_, upd_same, fun D nD => ?_⟩⟩⟩
      have lk : (S.map fun r => (tk r.1, V.ref r.2.1)).length < 100000 := by rw [List.length_map]; omega
      have rows : ∀ {H' : Hp} {u : HO}, L2.Same (upd JB d u) H' → ∀ r ∈ S, H' r.2.1 = some (.tup [.int r.2.2.1, .str r.2.2.2]) := fun s r hr => by
        have h0 := mtB.2 r hr
        exact s _ _ ((upd_ne fun z => by rw [z, mtB.1] at h0; cases h0).trans h0)
      have keep : ∀ {H' : Hp} {u : HO} {c : Addr} {v : HO}, L2.Same (upd JB d u) H' → JB c = some v → v ≠ .dT (S.map fun r => (tk r.1, V.ref r.2.1)) → H' c = some v := fun {H' u c v} s hc ne => s _ _ ((upd_ne fun z => by rw [z, mtB.1] at hc; exact ne (Option.some.inj hc).symm).trans hc)
      have wd1 := nok.ok _ (ok.at_ r hr_).2.2
      have wd2 := nok.ok _ (ok.go r hr_).2.2
      refine lc_fil (walk_keysT (kvs := S.map fun r => (tk r.1, V.ref r.2.1))) nD lk (fun _ sm => sm _ _ upd_same) (fun j => S[j]?.bind fun q => if keepQ r.1 ((r.1.1 + r.2.2.1) % m, r.2.2.2) q = true then some q else none) PR
        (fun H H' v c s h => h.same s) (fun H xs ys v c hD h => h.mut hD) (fun j x H5 H6 Kn Z hj sm _ y q n => ?_) (fun H5 zs sm hD hp5 => ?_)
      · obtain ⟨rfl, kk, vv, qq, hkv, rfl, hq⟩ := y
        rw [List.length_map] at hj
        have hri : S[j]? = some S[j] := List.getElem?_eq_getElem hj
        rw [List.getElem?_map, hri] at hkv
        cases hkv
        rw [hri, Option.bind_some] at q n
        have hq_ : S[j] ∈ S := List.getElem_mem hj
        generalize S[j] = rj at hri hq hq_ q n
        have wdj := nok.ok _ (ok.at_ rj hq_).2.2
        refine ⟨rfl, _, rfl, _, rfl, spD rj.1, [spD r.1, spD ((r.1.1 + r.2.2.1) % m, r.2.2.2)], dp_spot hq, .lst (SqL.of (keep sm hw (fun z => nomatch z))) (.cons (dp_spot (keep sm hkB (fun z => nomatch z))) (.cons (dp_spot (p := ((r.1.1 + r.2.2.1) % m, r.2.2.2)) (keep sm hu (fun z => nomatch z))) .nil)), spD_sh wdj.ok, spDs_sh wd1.ok (q := ((r.1.1 + r.2.2.1) % m, r.2.2.2)) wd2.ok, _, rfl, ?_⟩
        rw [any2]
        refine ite2 (fun c => ?_) (fun c => ?_)
        · refine ⟨_, rfl, _, rfl, _, rfl, d, .ref rj.2.1, rfl, .inr ⟨_, tk rj.1, qq, .inr ⟨od, sm _ _ upd_same⟩, rfl, hq, (row_val ok.nd hq_).symm⟩, by show (2 : Nat) ≤ sizeLine; decide +kernel, fun t nt => ?_⟩
          exact q _ rj _ (if_pos c) (Same.new nt) ⟨t, qq, rfl, upd_same, Same.new nt _ _ hq⟩
        · exact n (if_neg c) _ (Same.refl _)
      · have fz := sm _ _ upd_same
        refine ⟨fz, ?_⟩
        have tG := lock_same mtB.1 sm
        rw [List.length_map, range_fil, fil_some] at hp5
        have hp5 : Paired (PR H5) zs (without m r S) := hp5
        have hpG : Paired (PR (upd H5 d (.dT (S.map fun r => (tk r.1, V.ref r.2.1))))) zs (without m r S) := L2.Paired.mapP hp5 fun v q h => by
          obtain ⟨t, k, e, h1, h2⟩ := h
          exact ⟨t, k, e, (upd_ne fun z => by rw [z, fz] at h1; cases h1).trans h1, (upd_ne fun z => by rw [z, fz] at h2; cases h2).trans h2⟩
        have hDG : (upd H5 d (.dT (S.map fun r => (tk r.1, V.ref r.2.1)))) D = some (.lst zs) := (upd_ne fun z => by rw [z, fz] at hD; cases hD).trans hD
        generalize upd H5 d (.dT (S.map fun r => (tk r.1, V.ref r.2.1))) = G1 at tG hpG hDG ⊢
        obtain ⟨ok1, lt1⟩ := without_ok ok m1 hr_
        obtain ⟨as1, rfl, pa1⟩ := pr_rows hpG
        refine ⟨D, as1, _, rfl, SqL.of hDG, pa1, keys_nd ok1.nd, fun dd ndd => ?_⟩

        have sd := Same.new (o := .dT ((without m r S).map fun r => (tk r.1, V.ref r.2.1))) ndd
        have mtd : MT (upd G1 dd (.dT ((without m r S).map fun r => (tk r.1, V.ref r.2.1)))) dd (without m r S) := ⟨upd_same, fun q hq => (tB.trans (tG.trans sd)) _ _ (mt.2 q (List.mem_filter.mp hq).1)⟩
        refine ⟨by show (2 : Nat) ≤ sizeLine; decide +kernel, fun t nt => ?_⟩
        have st2 := Same.new (o := .tup [V.int m, V.ref dd]) nt
        exact k t dd _ _ (tB.trans (tG.trans (sd.trans st2))) upd_same (mtd.same st2) ok1 (by omega)
end
end K63

set_option Elab.async false
set_option linter.all false
set_option maxRecDepth 100000
set_option maxHeartbeats 4000000
namespace K63
open PySem L2 Lay Own SrtO Tv Ow
theorem sh_mok {m k : Int} {ns : List Str} {S : List Row} (ok : MOk m ns S) (nok : NsOk ns) (m1 : 1 ≤ m) (m5 : m ≤ 500) : MOk m ns (S.map (shR m k)) := by
  have g2 := sh_good (s := k) (ok.good nok m1 m5) (List.Perm.refl S)
  refine ⟨g2.nd, fun r hr => ?_, fun r hr => ?_, fun r hr => ?_, fun r hr => ?_⟩
  · obtain ⟨q, hq, rfl⟩ := List.mem_map.mp hr
    exact ⟨Int.emod_nonneg _ (by omega), Int.emod_lt_of_pos _ (by omega), (ok.at_ q hq).2.2⟩
  · obtain ⟨q, hq, rfl⟩ := List.mem_map.mp hr
    exact ok.go q hq
  · obtain ⟨q, hq, rfl⟩ := List.mem_map.mp hr
    obtain ⟨z, hz, e1, e2⟩ := ok.back q hq
    refine ⟨shR m k z, List.mem_map.mpr ⟨z, hz, rfl⟩, ?_, e2⟩
    have a : z.1.1 = (q.1.1 + q.2.2.1) % m := congrArg Prod.fst e1
    have b : z.1.2 = q.2.2.2 := (Prod.mk.inj (show ((z.1.1, z.1.2) : Spot) = ((q.1.1 + q.2.2.1) % m, q.2.2.2) from e1)).2
    refine Prod.ext ?_ b
    show (z.1.1 + k) % m = ((q.1.1 + k) % m + q.2.2.1) % m
    rw [a, Int.emod_add_emod, Int.emod_add_emod]
    congr 1
    omega
  · obtain ⟨q, hq, rfl⟩ := List.mem_map.mp hr
    exact ok.ne q hq
end K63

set_option Elab.async false
set_option linter.all false
set_option maxRecDepth 100000
set_option maxHeartbeats 4000000
namespace K63
open PySem L2 Lay Own SrtO Tv Ow
/-! longer rows, in the law's order -/
def tmR (m : Int) (t : Nat) (r : Row) : Row := ((r.1.1 + m * t, r.1.2), r.2)
def tmL (m : Int) (n : Nat) : List Row → List Row
  | [] => []
  | r :: S => (List.range n).map (fun t => tmR m t r) ++ tmL m n S
theorem tml_mem {m : Int} {n : Nat} {q : Row} : ∀ {S : List Row}, q ∈ tmL m n S ↔ ∃ t, t < n ∧ ∃ r ∈ S, tmR m t r = q
  | [] => ⟨fun h => (nomatch h), fun ⟨_, _, _, h, _⟩ => (nomatch h)⟩
  | r :: S => by
    show q ∈ (List.range n).map (fun t => tmR m t r) ++ tmL m n S ↔ _
    rw [List.mem_append, tml_mem (S := S), List.mem_map]
    constructor
    · rintro (⟨t, h, e⟩ | ⟨t, h, z, hz, e⟩)
      · exact ⟨t, List.mem_range.mp h, r, List.mem_cons_self .., e⟩
      · exact ⟨t, h, z, List.mem_cons_of_mem _ hz, e⟩
    · rintro ⟨t, h, z, hz, e⟩
      rcases List.mem_cons.mp hz with rfl | hz
      · exact .inl ⟨t, List.mem_range.mpr h, e⟩
      · exact .inr ⟨t, h, z, hz, e⟩
theorem tml_len (m : Int) (n : Nat) : ∀ S : List Row, (tmL m n S).length = n * S.length
  | [] => (Nat.mul_zero _).symm
  | r :: S => by
    show ((List.range n).map (fun t => tmR m t r) ++ tmL m n S).length = _
    rw [List.length_append, List.length_map, List.length_range, tml_len m n S, List.length_cons, Nat.mul_succ, Nat.add_comm]
theorem tm_inj {m a b : Int} {t u : Nat} (a0 : 0 ≤ a) (a1 : a < m) (b0 : 0 ≤ b) (b1 : b < m) (h : a + m * t = b + m * u) : t = u ∧ a = b := by
  have e1 : (a + m * t) / m = t := by rw [Int.add_mul_ediv_left _ _ (by omega), Int.ediv_eq_zero_of_lt a0 a1, Int.zero_add]
  have e2 : (b + m * u) / m = u := by rw [Int.add_mul_ediv_left _ _ (by omega), Int.ediv_eq_zero_of_lt b0 b1, Int.zero_add]
  rw [h, e2] at e1
  have e3 : u = t := by omega
  subst e3
  exact ⟨rfl, by omega⟩
theorem tml_nd {m : Int} {n : Nat} : ∀ {S : List Row}, (S.map (·.1)).Nodup → (∀ r ∈ S, 0 ≤ r.1.1 ∧ r.1.1 < m) → ((tmL m n S).map (·.1)).Nodup
  | [], _, _ => List.nodup_nil
  | r :: S, nd, b => by
    rw [List.map_cons, List.nodup_cons] at nd
    have b0 := b r (List.mem_cons_self ..)
    show (((List.range n).map (fun t => tmR m t r) ++ tmL m n S).map (·.1)).Nodup
    have h1 : ∀ t u : Nat, t ≠ u → (tmR m t r).1 ≠ (tmR m u r).1 := fun t u ne e => by
      have e1 : r.1.1 + m * (t : Int) = r.1.1 + m * (u : Int) := congrArg (fun p : Spot => p.1) e
      exact ne (tm_inj b0.1 b0.2 b0.1 b0.2 e1).1
    have h2 : ∀ q ∈ (List.range n).map (fun t => tmR m t r), ∀ z ∈ tmL m n S, q.1 ≠ z.1 := fun q hq z hz e => by
      obtain ⟨t, _, rfl⟩ := List.mem_map.mp hq
      obtain ⟨u, _, y, hy, rfl⟩ := tml_mem.mp hz
      obtain ⟨e1, e2⟩ := Prod.mk.inj (show ((r.1.1 + m * (t : Int), r.1.2) : Spot) = (y.1.1 + m * (u : Int), y.1.2) from e)
      have c := b y (List.mem_cons_of_mem _ hy)
      have z := (tm_inj b0.1 b0.2 c.1 c.2 e1).2
      exact nd.1 (List.mem_map.mpr ⟨y, hy, Prod.ext z.symm e2.symm⟩)
    exact List.pairwise_map.mpr (List.pairwise_append.mpr ⟨List.pairwise_map.mpr (List.Pairwise.imp (fun {t u} ne => h1 t u ne) (List.nodup_range (n := n))), List.pairwise_map.mp (tml_nd nd.2 fun q hq => b q (List.mem_cons_of_mem _ hq)), h2⟩)
theorem tml_mok {m : Int} {n : Nat} {ns : List Str} {S : List Row} (ok : MOk m ns S) (m1 : 1 ≤ m) (n1 : 1 ≤ n) : MOk (m * n) ns (tmL m n S) := by
  have mn1 : 1 ≤ m * (n : Int) := by
    have := Int.mul_le_mul m1 (show (1 : Int) ≤ (n : Int) by omega) (by omega) (by omega)
    omega
  refine ⟨tml_nd ok.nd fun r hr => ⟨(ok.at_ r hr).1, (ok.at_ r hr).2.1⟩, fun q hq => ?_, fun q hq => ?_, fun q hq => ?_, fun q hq => ?_⟩
  · obtain ⟨t, ht, r, hr, rfl⟩ := tml_mem.mp hq
    have a := ok.at_ r hr
    have z0 : 0 ≤ m * (t : Int) := Int.mul_nonneg (by omega) (by omega)
    have z1 : m * ((t : Int) + 1) ≤ m * n := Int.mul_le_mul_of_nonneg_left (by omega) (by omega)
    rw [Int.mul_add, Int.mul_one] at z1
    exact ⟨by show 0 ≤ r.1.1 + m * t; omega, by show r.1.1 + m * t < m * n; omega, a.2.2⟩
  · obtain ⟨t, ht, r, hr, rfl⟩ := tml_mem.mp hq
    exact ok.go r hr
  · obtain ⟨t, ht, r, hr, rfl⟩ := tml_mem.mp hq
    obtain ⟨z, hz, e1, e2⟩ := ok.back r hr
    have a : z.1.1 = (r.1.1 + r.2.2.1) % m := congrArg Prod.fst e1
    have b : z.1.2 = r.2.2.2 := (Prod.mk.inj (show ((z.1.1, z.1.2) : Spot) = ((r.1.1 + r.2.2.1) % m, r.2.2.2) from e1)).2
    obtain ⟨y, hy⟩ : ∃ y, (r.1.1 + m * (t : Int) + r.2.2.1) % (m * n) = y := ⟨_, rfl⟩
    have c0 := Int.emod_nonneg (r.1.1 + m * (t : Int) + r.2.2.1) (show m * (n : Int) ≠ 0 by omega)
    have c1 := Int.emod_lt_of_pos (r.1.1 + m * (t : Int) + r.2.2.1) (show 0 < m * (n : Int) by omega)
    rw [hy] at c0 c1
    have d0 : 0 ≤ y / m := Int.ediv_nonneg c0 (by omega)
    have d1 : y / m < n := Int.ediv_lt_of_lt_mul (by omega) (by rw [Int.mul_comm (n : Int) m]; exact c1)
    have d2 := Int.emod_add_mul_ediv y m
    have md : y % m = z.1.1 := by
      rw [← hy, Int.emod_emod_of_dvd _ ⟨(n : Int), rfl⟩, a, show r.1.1 + m * (t : Int) + r.2.2.1 = r.1.1 + r.2.2.1 + m * t by omega, Int.add_mul_emod_self_left]
    refine ⟨tmR m (y / m).toNat z, tml_mem.mpr ⟨_, by omega, z, hz, rfl⟩, ?_, e2⟩
    show ((z.1.1 + m * ((y / m).toNat : Nat), z.1.2) : Spot) = ((r.1.1 + m * (t : Int) + r.2.2.1) % (m * n), r.2.2.2)
    rw [hy, Int.toNat_of_nonneg d0, ← md, d2, b]
  · obtain ⟨t, ht, r, hr, rfl⟩ := tml_mem.mp hq
    exact ok.ne r hr
end K63

set_option Elab.async false
set_option linter.all false
set_option maxRecDepth 100000
set_option maxHeartbeats 4000000
namespace K63
open PySem L2 Lay Own SrtO Tv Ow
local macro_rules | `(tactic| walk_at "ne") => `(tactic| first | assumption | (apply Ne.symm; assumption) | exact ne_of_none (by walk_at "look") (by assumption) | exact (ne_of_none (by walk_at "look") (by assumption)).symm)
local macro_rules | `(tactic| walk_at "look") => `(tactic| first | assumption | exact upd_same | (refine Eq.trans (upd_ne ?_) ?_; walk_at "ne"; walk_at "look"))
local macro_rules | `(tactic| walk_at "rds") => `(tactic| first | rfl | assumption | walk_at "look" | exact SqL.of (by walk_at "look") | exact SqT.of (by walk_at "look") | exact Or.inl (SqL.of (by walk_at "look")) | exact Or.inl (by assumption) | decide | omega | exact Nat.le_of_ble_eq_true rfl | exact Or.inr ⟨by decide, by decide⟩ | exact Or.inl ⟨by omega, by omega⟩ | exact ⟨by decide, by decide⟩)
local macro_rules | `(tactic| walk_at "rd1") => `(tactic| first | (apply Exists.intro) | (refine And.intro ?_ ?_; walk_at "rds") | (refine Or.inl ?_; apply Exists.intro; refine And.intro ?_ ?_; rfl))
local macro_rules | `(tactic| walk_at "rd") => `(tactic| repeat walk_at "rd1")
section
variable {P : Program} {w : World} {K : PySem.W.Frag} {mg : Str → Option Value} {base : Heap}
theorem tml_app (m : Int) (n : Nat) (r : Row) : ∀ S : List Row, tmL m n (S ++ [r]) = tmL m n S ++ (List.range n).map (fun t => tmR m t r)
  | [] => by
    show (List.range n).map (fun t => tmR m t r) ++ [] = [] ++ _
    rw [List.append_nil, List.nil_append]
  | q :: S => by
    show (List.range n).map (fun t => tmR m t q) ++ tmL m n (S ++ [r]) = ((List.range n).map (fun t => tmR m t q) ++ tmL m n S) ++ _
    rw [tml_app m n r S, List.append_assoc]
theorem take_ne {S : List Row} {i : Nat} {r : Row} (nd : (S.map (·.1)).Nodup) (h : S[i]? = some r) : ∀ z ∈ S.take i, z.1 ≠ r.1 := fun z hz e => by
  obtain ⟨j, hj⟩ := List.mem_iff_getElem?.mp hz
  rw [List.getElem?_take] at hj
  by_cases c : j < i
  · rw [if_pos c] at hj
    have hj2 : (S.map (·.1))[j]? = some r.1 := by rw [List.getElem?_map, hj]; exact congrArg some e
    have hi2 : (S.map (·.1))[i]? = some r.1 := by rw [List.getElem?_map, h]; rfl
    have := (List.getElem?_inj (List.getElem?_eq_some_iff.mp hj2).1 nd).mp (hj2.trans hi2.symm)
    omega
  · rw [if_neg c] at hj
    cases hj
theorem same_side {H : Hp} {d e : Addr} {o v : HO} (he : H e = none) (hd : H d = some v) {u : HO} : L2.Same (upd H d o) (upd (upd H e u) d o) := fun b x hb => by
  by_cases c : b = d
  · rw [c, upd_same] at hb ⊢
    exact hb
  · rw [upd_ne c] at hb ⊢
    exact (upd_ne fun z => by rw [z, he] at hb; cases hb).trans hb
def spLng : Sp := fun vs H Q _ => ∃ d m n S, vs = [.int m, .ref d, .int ((n : Nat) : Int)] ∧ MT H d S ∧ (S.map (·.1)).Nodup ∧ (∀ r ∈ S, 0 ≤ r.1.1 ∧ r.1.1 < m) ∧ 1 ≤ m ∧ m ≤ 500 ∧ 1 ≤ n ∧ n ≤ 500 ∧ S.length ≤ 100 ∧
  ∀ t e H', L2.Same H H' → H' t = some (.tup [.int (m * n), .ref e]) → MT H' e (tmL m n S) → Q (.ref t) H'
theorem d_longer (T : Txt K mg) : Df P w K mg base 1 "_law_longer" ["_law_span", "_law_mates_here", "_law_lot"] spLng := by
  refine T.S_l_longer.by sc_l_longer (fun vs H Q E h => ?_) (fun f cdv A outer s H vs Q E hr hgd h => ?_)
  · obtain ⟨d, m, n, S, rfl, _⟩ := h; rfl
  · obtain ⟨d, m, n, S, rfl, mt, nd, bd, m1, m5, n1, n5, lS, k⟩ := h
    refine ⟨_, (pss_cons (ps_set (i := 3) sc_l_longer.nd rfl (by first | exact Or.inl rfl | exact Or.inr rfl) (pe_dnewT))
      (pss_cons (ps_lock (ps_for PassesOwn.never rfl (pi_keys (pv 1)) (pg_tup rfl (pgs_cons (pg_name (i := 4) sc_l_longer.nd rfl (by first | exact Or.inl rfl | exact Or.inr rfl)) (pgs_cons (pg_name (i := 5) sc_l_longer.nd rfl (by first | exact Or.inl rfl | exact Or.inr rfl)) pgs_nil))) (pss_one (ps_for PassesOwn.never rfl (pi_range1 (by rfl) T.n_range (pa_cons (pv 2) pa_nil)) (pg_name (i := 6) sc_l_longer.nd rfl (by first | exact Or.inl rfl | exact Or.inr rfl)) (pss_one (ps_dput (hu_of hr) (pv 3) (pe_tup (pa_cons (pe_op op_add (pv 4) (pe_op op_mul (pv 6) (pv 0))) (pa_cons (pv 5) pa_nil))) (pe_dget (hu_of hr) (pv 1) (pe_tup (pa_cons (pv 4) (pa_cons (pv 5) pa_nil))) (fun _ _ => rfl)) rfl))))))
      (pss_one (ps_ret (pe_tup (pa_cons (pe_op op_mul (pv 0) (pv 2)) (pa_cons (pv 3) pa_nil))))))), ?_⟩
    intro e ne
    have s0 := Same.new (o := .dT []) ne
    have dne : d ≠ e := fun z => by rw [← z, mt.1] at ne; cases ne
    refine ⟨d, .dT _, s0 _ _ mt.1, trivial, fun od => ?_⟩
    have fz : (upd (upd H e (.dT [])) d (.frz od (.dT (S.map fun r => (tk r.1, V.ref r.2.1))))) d = some (.frz od (.dT (S.map fun r => (tk r.1, V.ref r.2.1)))) := upd_same
    have he0 : (upd (upd H e (.dT [])) d (.frz od (.dT (S.map fun r => (tk r.1, V.ref r.2.1))))) e = some (.dT []) := (upd_ne fun z => dne z.symm).trans upd_same
    have sF : L2.Same (upd H d (.frz od (.dT (S.map fun r => (tk r.1, V.ref r.2.1))))) (upd (upd H e (.dT [])) d (.frz od (.dT (S.map fun r => (tk r.1, V.ref r.2.1))))) := same_side ne mt.1
    have fr_ : ∀ r ∈ S, (upd H d (.frz od (.dT (S.map fun r => (tk r.1, V.ref r.2.1))))) r.2.1 = some (.tup [.int r.2.2.1, .str r.2.2.2]) := fun r hr => (upd_ne fun z => by
      have h := mt.2 r hr
      rw [z, mt.1] at h
      cases h).trans (mt.2 r hr)
    have fzB : (upd H d (.frz od (.dT (S.map fun r => (tk r.1, V.ref r.2.1))))) d = some (.frz od (.dT (S.map fun r => (tk r.1, V.ref r.2.1)))) := upd_same
    have neB : (upd H d (.frz od (.dT (S.map fun r => (tk r.1, V.ref r.2.1))))) e = none := (upd_ne fun z => dne z.symm).trans ne
    have unl : ∀ {G2 : Hp}, L2.Same (upd H d (.frz od (.dT (S.map fun r => (tk r.1, V.ref r.2.1))))) G2 → L2.Same H (upd G2 d (.dT (S.map fun r => (tk r.1, V.ref r.2.1)))) := fun s => lock_same mt.1 s
    generalize upd H d (.frz od (.dT (S.map fun r => (tk r.1, V.ref r.2.1)))) = B at sF fr_ fzB neB unl
    generalize upd (upd H e (.dT [])) d (.frz od (.dT (S.map fun r => (tk r.1, V.ref r.2.1)))) = F at fz he0 sF ⊢
    refine ⟨_, rfl, d, od, rfl, .inr ⟨_, fz, ?_⟩⟩
    have big : 60000 < sizeLine := by decide +kernel
    refine for_it (walk_keysT (kvs := S.map fun r => (tk r.1, V.ref r.2.1))) (fun i σ G2 => ∃ s4 s5 s6 : Option V, σ = [some (.int m), some (.ref d), some (.int (n : Int)), some (.ref e), s4, s5, s6] ∧ L2.Same B G2 ∧ MT G2 e (tmL m n (S.take i)))
      ⟨_, _, _, rfl, sF, he0, fun r hr => (nomatch hr)⟩ (fun i σ G2 _ q => by obtain ⟨_, _, _, _, s, _⟩ := q; exact s _ _ fzB) (fun i x σ G2 G3 hi hP y => ?_) (fun σ G2 hP => ?_)
    · obtain ⟨s4, s5, s6, rfl, sG, mG⟩ := hP
      obtain ⟨rfl, kk, vv, q, hkv, rfl, hq⟩ := y
      rw [List.length_map] at hi
      have hsi : S[i]? = some S[i] := List.getElem?_eq_getElem hi
      rw [List.getElem?_map, hsi] at hkv
      cases hkv
      have tkn : S.take (i + 1) = S.take i ++ [S[i]] := by rw [List.take_add_one, hsi]; rfl
      have hr_ : S[i] ∈ S := List.getElem_mem hi
      have nek := take_ne nd hsi
      have lt : (S.take i).length ≤ 100 := Nat.le_trans (List.length_take_le' _ _) lS
      have bt : ∀ r ∈ S.take i, 0 ≤ r.1.1 ∧ r.1.1 < m := fun r hr => bd r (List.mem_of_mem_take hr)
      rw [tkn, tml_app]
      generalize S[i] = r at hsi hr_ tkn hq nek
      generalize S.take i = Z at mG nek lt bt
      have br := bd r hr_
      refine ⟨q, _, rfl, SqT.of hq, rfl, _, _, rfl, _, _, rfl, rfl, ?_⟩
      refine ⟨_, rfl, (n : Int), rfl, by omega, by omega, ?_⟩
      refine for_it walk_range (fun j σ J => ∃ s6 : Option V, σ = [some (.int m), some (.ref d), some (.int (n : Int)), some (.ref e), some (.int r.1.1), some (.str r.1.2), s6] ∧ L2.Same B J ∧ MT J e (tmL m n Z ++ (List.range j).map (fun t => tmR m t r)))
        ⟨_, rfl, sG, by rw [List.range_zero, List.map_nil, List.append_nil]; exact mG⟩ (fun _ _ _ _ _ => trivial) (fun j x σ J J2 hj hP yy => ?_) (fun σ J hP => ?_)
      · obtain ⟨s6, rfl, sJ, mJ⟩ := hP
        obtain ⟨rfl, rfl⟩ := yy
        have hjn : j < n := by omega
        refine ⟨_, rfl, _, rfl, _, rfl, by show (2 : Nat) ≤ sizeLine; decide +kernel, fun u nu => ?_⟩
        have s1 := Same.new (o := .tup [V.int r.1.1, V.str r.1.2]) nu
        have t1 := sJ.trans s1
        refine ⟨d, .ref r.2.1, rfl, .inr ⟨_, tk r.1, u, .inr ⟨od, t1 _ _ fzB⟩, rfl, upd_same, (row_val nd hr_).symm⟩, ?_⟩
        have mJ1 := mJ.same s1
        generalize upd J2 u (.tup [V.int r.1.1, V.str r.1.2]) = J3 at t1 mJ1 ⊢
        refine ⟨_, rfl, _, rfl, _, rfl, _, rfl, 0 + (j : Int), m, rfl, rfl, .inl ⟨by omega, by omega⟩, r.1.1, _, rfl, rfl, _, rfl, by show (2 : Nat) ≤ sizeLine; decide +kernel, fun k1 nk1 => ?_⟩
        have ev : (0 + (j : Int)) * m = m * (j : Int) := by rw [Int.zero_add, Int.mul_comm]
        rw [ev] at *
        have s2 := Same.new (o := .tup [V.int (r.1.1 + m * (j : Int)), V.str r.1.2]) nk1
        have mJ2 := mJ1.same s2
        have f : ∀ z ∈ tmL m n Z ++ (List.range j).map (fun t => tmR m t r), z.1 ≠ (r.1.1 + m * (j : Int), r.1.2) := fun z hz ez => by
          rcases List.mem_append.mp hz with hz | hz
          · obtain ⟨t, _, y, hy, rfl⟩ := tml_mem.mp hz
            obtain ⟨e1, e2⟩ := Prod.mk.inj (show ((y.1.1 + m * (t : Int), y.1.2) : Spot) = (r.1.1 + m * (j : Int), r.1.2) from ez)
            have b := bt y hy
            exact nek y hy (Prod.ext (tm_inj b.1 b.2 br.1 br.2 e1).2 e2)
          · obtain ⟨t, ht, rfl⟩ := List.mem_map.mp hz
            have ht := List.mem_range.mp ht
            have e1 : r.1.1 + m * (t : Int) = r.1.1 + m * (j : Int) := congrArg (fun p : Spot => p.1) ez
            have := (tm_inj br.1 br.2 br.1 br.2 e1).1
            omega
        have ll : ((tmL m n Z ++ (List.range j).map (fun t => tmR m t r)).map fun r => (tk r.1, V.ref r.2.1)).length < sizeLine := by
          rw [List.length_map, List.length_append, tml_len, List.length_map, List.length_range]
          have := Nat.mul_le_mul n5 lt
          omega
        refine ⟨e, _, rfl, .inr ⟨_, tk (r.1.1 + m * (j : Int), r.1.2), k1, mJ2.1, rfl, upd_same, ll, rfl⟩, ?_⟩
        have hq1 := (t1.trans s2) _ _ (fr_ r hr_)
        have mtB := mJ2.put (p := (r.1.1 + m * (j : Int), r.1.2)) (v := r.2.2) f hq1
        have el : tmL m n Z ++ (List.range (j + 1)).map (fun t => tmR m t r) = (tmL m n Z ++ (List.range j).map (fun t => tmR m t r)) ++ [((r.1.1 + m * (j : Int), r.1.2), r.2)] := by
          rw [List.range_succ, List.map_append, ← List.append_assoc]
          rfl
        refine ⟨_, rfl, Same.mut (t1.trans s2) neB, ?_⟩
        rw [el]
        exact mtB
      · obtain ⟨s6, rfl, sJ, mJ⟩ := hP
        rw [Int.toNat_natCast] at mJ
        exact ⟨_, _, _, rfl, sJ, mJ⟩
    · obtain ⟨s4, s5, s6, rfl, sG, mG⟩ := hP
      rw [List.length_map, List.take_length] at mG
      have fzz := sG _ _ fzB
      refine ⟨fzz, ?_⟩
      have tG := unl sG
      have mG2 : MT (upd G2 d (.dT (S.map fun r => (tk r.1, V.ref r.2.1)))) e (tmL m n S) := ⟨(upd_ne fun z => dne z.symm).trans mG.1, fun z hz => by
        have h := mG.2 z hz
        exact (upd_ne fun y => by rw [y, fzz] at h; cases h).trans h⟩
      generalize upd G2 d (.dT (S.map fun r => (tk r.1, V.ref r.2.1))) = G4 at tG mG2 ⊢
      refine ⟨_, rfl, _, rfl, m, (n : Int), rfl, rfl, .inl ⟨by omega, by omega⟩, _, rfl, by show (2 : Nat) ≤ sizeLine; decide +kernel, fun t nt => ?_⟩
      have st2 := Same.new (o := .tup [V.int (m * n), V.ref e]) nt
      exact k t e _ (tG.trans st2) upd_same (mG2.same st2)
end
end K63

set_option Elab.async false
set_option linter.all false
set_option maxRecDepth 100000
set_option maxHeartbeats 4000000
namespace K63
open PySem L2 Lay Own SrtO Tv Ow
local macro_rules | `(tactic| walk_at "ne") => `(tactic| first | assumption | (apply Ne.symm; assumption) | exact ne_of_none (by walk_at "look") (by assumption) | exact (ne_of_none (by walk_at "look") (by assumption)).symm)
local macro_rules | `(tactic| walk_at "look") => `(tactic| first | assumption | exact upd_same | (refine Eq.trans (upd_ne ?_) ?_; walk_at "ne"; walk_at "look"))
local macro_rules | `(tactic| walk_at "rds") => `(tactic| first | rfl | assumption | walk_at "look" | exact SqL.of (by walk_at "look") | exact SqT.of (by walk_at "look") | exact Or.inl (SqL.of (by walk_at "look")) | exact Or.inl (by assumption) | decide | omega | exact Nat.le_of_ble_eq_true rfl | exact Or.inr ⟨by decide, by decide⟩ | exact Or.inl ⟨by omega, by omega⟩ | exact ⟨by decide, by decide⟩)
local macro_rules | `(tactic| walk_at "rd1") => `(tactic| first | (apply Exists.intro) | (refine And.intro ?_ ?_; walk_at "rds") | (refine Or.inl ?_; apply Exists.intro; refine And.intro ?_ ?_; rfl))
local macro_rules | `(tactic| walk_at "rd") => `(tactic| repeat walk_at "rd1")
section
variable {P : Program} {w : World} {K : PySem.W.Frag} {mg : Str → Option Value} {base : Heap}
/-- a tuple of a period and right partners -/
def Oth (ns : List Str) (H : Hp) (t : Addr) : Prop := ∃ (f : Int) (e : Addr) (R : List Row), H t = some (.tup [.int f, .ref e]) ∧ MT H e R ∧ MOk f ns R ∧ 1 ≤ f ∧ f ≤ 500 ∧ R.length ≤ 200
theorem Oth.same {ns : List Str} {H H' : Hp} {t : Addr} (h : Oth ns H t) (s : L2.Same H H') : Oth ns H' t := by
  obtain ⟨f, e, R, h1, h2, h3⟩ := h
  exact ⟨f, e, R, s _ _ h1, h2.same s, h3⟩
theorem Oth.mut {ns : List Str} {H : Hp} {t q : Addr} {xs : List V} {o : HO} (h : Oth ns H t) (hq : H q = some (.lst xs)) : Oth ns (upd H q o) t := by
  obtain ⟨f, e, R, h1, ⟨h2, h3⟩, h4⟩ := h
  exact ⟨f, e, R, (upd_ne fun z => by rw [z, hq] at h1; cases h1).trans h1, ⟨(upd_ne fun z => by rw [z, hq] at h2; cases h2).trans h2, fun r hr => by
    have h := h3 r hr
    exact (upd_ne fun z => by rw [z, hq] at h; cases h).trans h⟩, h4⟩
def Found (ns : List Str) (H G : Hp) (q : Addr) (n : Nat) : Prop := L2.Same H G ∧ ∃ ts : List Addr, G q = some (.lst (ts.map V.ref)) ∧ ts.length = n ∧ ∀ t ∈ ts, Oth ns G t
theorem Found.same {ns : List Str} {H G G' : Hp} {q : Addr} {n : Nat} (h : Found ns H G q n) (s : L2.Same G G') : Found ns H G' q n := by
  obtain ⟨h1, ts, h2, h3, h4⟩ := h
  exact ⟨h1.trans s, ts, s _ _ h2, h3, fun t ht => (h4 t ht).same s⟩
theorem Found.at_ {ns : List Str} {H G : Hp} {q : Addr} {n : Nat} (h : Found ns H G q n) : ∃ xs, G q = some (.lst xs) := by
  obtain ⟨h1, ts, h2, _⟩ := h
  exact ⟨_, h2⟩
/-- found.append(t) -/
theorem Found.put {ns : List Str} {H G : Hp} {q t : Addr} {n : Nat} {Q : VK} (h : Found ns H G q n) (nq : H q = none) (n9 : n ≤ 9) (o : Oth ns G t) (k : ∀ G', Found ns H G' q (n + 1) → Q .non G') : rAppend (.ref q) [.ref t] G Q := by
  obtain ⟨h1, ts, h2, h3, h4⟩ := h
  refine ⟨q, _, _, rfl, rfl, h2, ?_, k _ ⟨Same.mut h1 nq, ts ++ [t], ?_, ?_, fun z hz => ?_⟩⟩
  · rw [List.length_map]
    exact Nat.lt_of_le_of_lt (m := 16) (by omega) (by decide +kernel)
  · rw [List.map_append]; exact upd_same
  · rw [List.length_append, h3]; rfl
  · rcases List.mem_append.mp hz with hz | hz
    · exact (h4 z hz).mut h2
    · rw [List.mem_singleton.mp hz]; exact o.mut h2
theorem Found.putN {ns : List Str} {H G : Hp} {q t : Addr} {n : Nat} {Q : VK} {σ : L2.St} (h : Found ns H G q n) (nq : H q = none) (n9 : n ≤ 9) (o : Oth ns G t) (k : ∀ G', Found ns H G' q (n + 1) → Q .non G') : tNil σ G (fun xs H2 => rAppend (.ref q) (.ref t :: xs) H2 Q) := Found.put h nq n9 o k
def spOth : Sp := fun vs H Q _ => ∃ p m d l ns S, vs = [.ref p, .int m, .ref d, .ref l] ∧ H p = some (PotO p) ∧ MT H d S ∧ MOk m ns S ∧ NsOk ns ∧ 1 ≤ m ∧ m ≤ 250 ∧ S.length ≤ 50 ∧ H l = some (.lst (ns.map V.str)) ∧ 1 ≤ ns.length ∧ ns.length ≤ 5 ∧
  ∀ (q : Addr) (ts : List Addr) H', L2.Same H H' → H' q = some (.lst (ts.map V.ref)) → ts.length ≤ 10 → (∀ t ∈ ts, Oth ns H' t) → Q (.ref q) H'
theorem d_others (T : Txt K mg) : Df P w K mg base 5 "_law_others" ["_law_pot_here", "_law_span", "_law_mates_here", "_law_labels"] spOth := by
  have D_l_draw := d_draw (P := P) (w := w) (base := base) T
  have D_l_longer := d_longer (P := P) (w := w) (base := base) T
  have D_l_less := d_less (P := P) (w := w) (base := base) T
  have D_l_turned := d_turned (P := P) (w := w) (base := base) T
  have D_l_mates := d_mates (P := P) (w := w) (base := base) T
  refine T.S_l_others.by sc_l_others (fun vs H Q E h => ?_) (fun f cdv A outer s H vs Q E hr hgd h => ?_)
  · obtain ⟨p, m, d, l, ns, S, rfl, _⟩ := h; rfl
  · obtain ⟨p, m, d, l, ns, S, rfl, hp, mt, ok, nok, m1, m5, lS, hl, n1, n5, k⟩ := h
    refine ⟨_, (pss_cons (ps_set (i := 4) sc_l_others.nd rfl (by first | exact Or.inl rfl | exact Or.inr rfl) (pe_op op_add pe_int (pe_own D_l_draw (hr.mono (by first | decide | omega)) hgd (pa_cons (pv 0) (pa_cons pe_int pa_nil)))))
      (pss_cons (ps_set (i := 5) sc_l_others.nd rfl (by first | exact Or.inl rfl | exact Or.inr rfl) (pe_lst (pa_cons (pe_tup (pa_cons (pv 1) (pa_cons (pv 2) pa_nil))) (pa_cons (pe_own D_l_longer (hr.mono (by first | decide | omega)) hgd (pa_cons (pv 1) (pa_cons (pv 2) (pa_cons pe_int pa_nil)))) (pa_cons (pe_tup (pa_cons pe_int (pa_cons (pe_dnewT) pa_nil))) pa_nil)))))
      (pss_cons (ps_expr (pe_bm PySem.F.plainAttrs_list PySem.F.slot_list_append PySem.F.type_list_append mt_append (pv 5) (pa_cons (pe_own D_l_longer (hr.mono (by first | decide | omega)) hgd (pa_cons (pv 1) (pa_cons (pv 2) (pa_cons (pe_op op_add pe_int (pe_own D_l_draw (hr.mono (by first | decide | omega)) hgd (pa_cons (pv 0) (pa_cons (pe_callB (call_min2 rfl) (by rfl) T.n_min (by decide +kernel) (pa_cons pe_int (pa_cons (pe_op op_fdiv pe_int (pv 1)) pa_nil))) pa_nil)))) pa_nil)))) pa_nil)))
      (pss_cons (ps_expr (pe_bm PySem.F.plainAttrs_list PySem.F.slot_list_append PySem.F.type_list_append mt_append (pv 5) (pa_cons (pe_own D_l_less (hr.mono (by first | decide | omega)) hgd (pa_cons (pv 0) (pa_cons (pv 1) (pa_cons (pv 2) pa_nil)))) pa_nil)))
      (pss_cons (ps_expr (pe_bm PySem.F.plainAttrs_list PySem.F.slot_list_append PySem.F.type_list_append mt_append (pv 5) (pa_cons (pe_own D_l_turned (hr.mono (by first | decide | omega)) hgd (pa_cons (pv 1) (pa_cons (pv 2) (pa_cons (pe_op op_add pe_int (pe_own D_l_draw (hr.mono (by first | decide | omega)) hgd (pa_cons (pv 0) (pa_cons pe_int pa_nil)))) pa_nil)))) pa_nil)))
      (pss_cons (ps_expr (pe_bm PySem.F.plainAttrs_list PySem.F.slot_list_append PySem.F.type_list_append mt_append (pv 5) (pa_cons (pe_tup (pa_cons (pv 4) (pa_cons (pe_own D_l_mates (hr.mono (by first | decide | omega)) hgd (pa_cons (pv 0) (pa_cons (pv 3) (pa_cons (pv 4) (pa_cons pe_int pa_nil))))) pa_nil))) pa_nil)))
      (pss_cons (ps_asg (pe_own D_l_longer (hr.mono (by first | decide | omega)) hgd (pa_cons (pv 1) (pa_cons (pv 2) (pa_cons pe_int pa_nil)))) (pg_tup rfl (pgs_cons (pg_name (i := 6) sc_l_others.nd rfl (by first | exact Or.inl rfl | exact Or.inr rfl)) (pgs_cons (pg_name (i := 7) sc_l_others.nd rfl (by first | exact Or.inl rfl | exact Or.inr rfl)) pgs_nil))))
      (pss_one (ps_ret (pe_op op_cat (pv 5) (pe_lst (pa_cons (pe_own D_l_less (hr.mono (by first | decide | omega)) hgd (pa_cons (pv 0) (pa_cons (pv 6) (pa_cons (pv 7) pa_nil)))) pa_nil)))))))))))), ?_⟩
    have nd := ok.nd
    have bd : ∀ r ∈ S, 0 ≤ r.1.1 ∧ r.1.1 < m := fun r hr => ⟨(ok.at_ r hr).1, (ok.at_ r hr).2.1⟩
    have g : Good m S := ok.good nok m1 (by omega)
    have mok0 : MOk 1 ns [] := ⟨List.nodup_nil, (fun r hr => nomatch hr), (fun r hr => nomatch hr), (fun r hr => nomatch hr), (fun r hr => nomatch hr)⟩
    have two : (2 : Nat) ≤ sizeLine := by decide +kernel
    have lng : ∀ (n : Nat) {G : Hp} {t e : Addr}, 1 ≤ n → n ≤ 4 → m * (n : Int) ≤ 500 → G t = some (.tup [.int (m * n), .ref e]) → MT G e (tmL m n S) → Oth ns G t := fun n {G t e} a b c h1 h2 => by
      have z := Int.mul_le_mul_of_nonneg_left (show (1 : Int) ≤ (n : Int) by omega) (show (0 : Int) ≤ m by omega)
      refine ⟨_, e, _, h1, h2, tml_mok ok m1 a, by omega, c, ?_⟩
      rw [tml_len]
      exact Nat.le_trans (Nat.mul_le_mul b lS) (by decide)
    refine ⟨_, rfl, p, 6, rfl, hp, by decide, by decide, fun dn H1 d0 d1 s1 => ?_⟩
    refine ⟨1, dn, rfl, rfl, ?_⟩
    refine ⟨_, rfl, _, rfl, two, fun t1 nt1 => ?_⟩
    have r1 := Same.new (o := .tup [V.int m, V.ref d]) nt1
    have ht1 := (upd_same : (upd H1 t1 (.tup [V.int m, V.ref d])) t1 = _)
    have v1 := s1.trans r1
    have o1 : Oth ns (upd H1 t1 (.tup [V.int m, V.ref d])) t1 := ⟨m, d, S, ht1, mt.same v1, ok, m1, by omega, by omega⟩
    generalize upd H1 t1 (.tup [V.int m, V.ref d]) = G1 at v1 o1 ⊢
    refine ⟨_, rfl, _, rfl, d, m, 2, S, rfl, mt.same v1, nd, bd, m1, by omega, by decide, by decide, by omega, fun t2 e2 G2 r2 ht2 mt2 => ?_⟩
    have v2 := v1.trans r2
    have o2 : Oth ns G2 t2 := lng 2 (by decide) (by decide) (by omega) ht2 mt2
    have o1 := o1.same r2
    refine fun e3 ne3 => ?_
    have r3 := Same.new (o := .dT []) ne3
    refine ⟨two, fun t3 nt3 => ?_⟩
    have r4 := Same.new (o := .tup [V.int 1, V.ref e3]) nt3
    have o3 : Oth ns (upd (upd G2 e3 (.dT [])) t3 (.tup [V.int 1, V.ref e3])) t3 := ⟨1, e3, [], upd_same, ⟨r4 _ _ upd_same, fun r hr => nomatch hr⟩, mok0, by decide, by decide, Nat.zero_le _⟩
    have v3 := v2.trans (r3.trans r4)
    have o1 := o1.same (r3.trans r4)
    have o2 := o2.same (r3.trans r4)
    generalize upd (upd G2 e3 (.dT [])) t3 (.tup [V.int 1, V.ref e3]) = G3 at v3 o1 o2 o3 ⊢
    refine ⟨by show (3 : Nat) ≤ sizeLine; decide +kernel, fun q nq3 => ?_⟩
    have r5 := Same.new (o := .lst [V.ref t1, V.ref t2, V.ref t3]) nq3
    have nq : H q = none := v3.free nq3
    have fd : Found ns H (upd G3 q (.lst [V.ref t1, V.ref t2, V.ref t3])) q 3 := ⟨v3.trans r5, [t1, t2, t3], upd_same, rfl, fun z hz => by
      simp only [List.mem_cons, List.not_mem_nil, or_false] at hz
      rcases hz with rfl | rfl | rfl
      · exact o1.same r5
      · exact o2.same r5
      · exact o3.same r5⟩
    generalize upd G3 q (.lst [V.ref t1, V.ref t2, V.ref t3]) = G4 at fd ⊢
    clear o1 o2 o3 r1 r2 r3 r4 r5 v1 v2 v3 ht1 ht2 mt2 s1
    obtain ⟨xs, hq⟩ := fd.at_
    have q1 : 1 ≤ 500 / m := (Int.le_ediv_iff_mul_le (show (0 : Int) < m by omega)).mpr (by omega)
    refine ⟨_, rfl, ty_lst hq, ?_⟩
    refine ⟨_, rfl, _, rfl, _, rfl, _, rfl, 500, m, rfl, rfl, ⟨by omega, by omega⟩, 4, 500 / m, rfl, ?_⟩
    obtain ⟨M, hM⟩ : ∃ M : Int, (if 500 / m < 4 then 500 / m else 4) = M := ⟨_, rfl⟩
    have M1 : 1 ≤ M ∧ M ≤ 4 ∧ M ≤ 500 / m := by
      rw [← hM]
      split <;> omega
    rw [hM]
    refine ⟨p, M, rfl, fd.1 _ _ hp, by omega, by omega, fun d2 G5 e0 e1 r1 => ?_⟩
    refine ⟨1, d2, rfl, rfl, ?_⟩
    have fd := fd.same r1
    obtain ⟨n, hn⟩ : ∃ n : Nat, 1 + d2 = n := ⟨(1 + d2).toNat, by omega⟩
    refine ⟨d, m, n, S, by show [V.int m, V.ref d, V.int (1 + d2)] = _; rw [hn], mt.same fd.1, nd, bd, m1, by omega, by omega, by omega, by omega, fun t4 e4 G6 r2 ht4 mt4 => ?_⟩
    have fd := fd.same r2
    have mn : m * (n : Int) ≤ 500 := by
      have a : (n : Int) * m ≤ 500 := (Int.le_ediv_iff_mul_le (show (0 : Int) < m by omega)).mp (by omega)
      rw [Int.mul_comm]; exact a
    have o4 : Oth ns G6 t4 := lng n (by omega) (by omega) mn ht4 mt4
    refine fd.putN nq (by decide) o4 fun G7 fd => ?_
    clear o4 ht4 mt4 r1 r2 hq xs
    obtain ⟨xs, hq⟩ := fd.at_
    refine ⟨_, rfl, ty_lst hq, ?_⟩
    refine ⟨_, rfl, _, rfl, _, rfl, p, d, m, ns, S, rfl, fd.1 _ _ hp, mt.same fd.1, ok, nok, m1, by omega, by omega, fun t5 e5 S5 G8 r1 ht5 mt5 ok5 l5 => ?_⟩
    have fd := fd.same r1
    refine fd.putN nq (by decide) ⟨m, e5, S5, ht5, mt5, ok5, m1, by omega, by omega⟩ fun G9 fd => ?_
    clear ht5 mt5 r1 hq xs
    obtain ⟨xs, hq⟩ := fd.at_
    refine ⟨_, rfl, ty_lst hq, ?_⟩
    refine ⟨_, rfl, _, rfl, _, rfl, p, 6, rfl, fd.1 _ _ hp, by decide, by decide, fun d3 G10 f0 f1 r1 => ?_⟩
    refine ⟨1, d3, rfl, rfl, ?_⟩
    have fd := fd.same r1
    refine ⟨d, m, _, S, rfl, mt.same fd.1, g, by omega, fun t6 e6 G11 r2 ht6 mt6 => ?_⟩
    have fd := fd.same r2
    refine fd.putN nq (by decide) ⟨m, e6, _, ht6, mt6, sh_mok ok nok m1 (by omega), m1, by omega, by rw [List.length_map]; omega⟩ fun G12 fd => ?_
    clear ht6 mt6 r1 r2 hq xs
    obtain ⟨xs, hq⟩ := fd.at_
    refine ⟨_, rfl, ty_lst hq, ?_⟩
    refine ⟨_, rfl, _, rfl, _, rfl, _, rfl, p, l, ns, 1 + dn, 6, rfl, fd.1 _ _ hp, fd.1 _ _ hl, nok, n1, n5, by omega, by omega, by decide, by decide, fun e7 R7 G13 r1 ne7 mt7 ok7 l7 => ?_⟩
    refine ⟨two, fun t7 nt7 => ?_⟩
    have r2 := Same.new (o := .tup [V.int (1 + dn), V.ref e7]) nt7
    have fd := fd.same (r1.trans r2)
    refine fd.putN nq (by decide) ⟨1 + dn, e7, R7, upd_same, mt7.same r2, ok7, by omega, by omega, by omega⟩ fun G14 fd => ?_
    clear r1 r2 mt7 hq xs
    refine ⟨_, rfl, _, rfl, d, m, 2, S, rfl, mt.same fd.1, nd, bd, m1, by omega, by decide, by decide, by omega, fun t8 e8 G15 r1 ht8 mt8 => ?_⟩
    have fd := fd.same r1
    have m2 : m * ((2 : Nat) : Int) ≤ 500 := by omega
    refine ⟨t8, _, rfl, SqT.of ht8, rfl, _, _, rfl, _, _, rfl, rfl, ?_⟩
    refine ⟨_, rfl, _, rfl, _, rfl, _, rfl, p, e8, _, ns, tmL m 2 S, rfl, fd.1 _ _ hp, mt8, tml_mok ok m1 (by decide), nok, by omega, m2, by rw [tml_len]; omega, fun t9 e9 S9 G16 r2 ht9 mt9 ok9 l9 => ?_⟩
    have fd := fd.same r2
    have l9' : S9.length ≤ 200 := by rw [tml_len] at l9; omega
    have o9 : Oth ns G16 t9 := ⟨_, e9, S9, ht9, mt9, ok9, by omega, m2, l9'⟩
    refine ⟨by show (1 : Nat) ≤ sizeLine; decide +kernel, fun u nu => ?_⟩
    have r3 := Same.new (o := .lst [V.ref t9]) nu
    have hu := (upd_same : (upd G16 u (.lst [V.ref t9])) u = _)
    have fd := fd.same r3
    have o9 := o9.same r3
    obtain ⟨z1, ts, hts, lts, ots⟩ := fd
    refine ⟨q, u, _, _, rfl, rfl, hts, hu, ?_, fun y ny => ?_⟩
    · rw [List.length_map]
      show ts.length + 1 ≤ sizeLine
      exact Nat.le_trans (m := 16) (by omega) (by decide +kernel)
    · have r4 := Same.new (o := .lst (ts.map V.ref ++ [V.ref t9])) ny
      refine k y (ts ++ [t9]) _ (z1.trans r4) (by rw [List.map_append]; exact upd_same) (by rw [List.length_append, lts]; show (8 : Nat) ≤ 10; decide) fun z hz => ?_
      rcases List.mem_append.mp hz with hz | hz
      · exact (ots z hz).same r4
      · rw [List.mem_singleton.mp hz]; exact o9.same r4
end
end K63

set_option Elab.async false
set_option linter.all false
set_option maxRecDepth 100000
set_option maxHeartbeats 4000000
namespace K63
open PySem L2 Lay Own SrtO Tv Ow
local macro_rules | `(tactic| walk_at "ne") => `(tactic| first | assumption | (apply Ne.symm; assumption) | exact ne_of_none (by walk_at "look") (by assumption) | exact (ne_of_none (by walk_at "look") (by assumption)).symm)
local macro_rules | `(tactic| walk_at "look") => `(tactic| first | assumption | exact upd_same | (refine Eq.trans (upd_ne ?_) ?_; walk_at "ne"; walk_at "look"))
local macro_rules | `(tactic| walk_at "rds") => `(tactic| first | rfl | assumption | walk_at "look" | exact SqL.of (by walk_at "look") | exact SqT.of (by walk_at "look") | exact Or.inl (SqL.of (by walk_at "look")) | exact Or.inl (by assumption) | decide | omega | exact Nat.le_of_ble_eq_true rfl | exact Or.inr ⟨by decide, by decide⟩ | exact Or.inl ⟨by omega, by omega⟩ | exact ⟨by decide, by decide⟩)
local macro_rules | `(tactic| walk_at "rd1") => `(tactic| first | (apply Exists.intro) | (refine And.intro ?_ ?_; walk_at "rds") | (refine Or.inl ?_; apply Exists.intro; refine And.intro ?_ ?_; rfl))
local macro_rules | `(tactic| walk_at "rd") => `(tactic| repeat walk_at "rd1")
theorem ix_tupK {cx : Cx} {C : PySem.W.Frag} (h : cx.K = C) : IxR cx (rIxT C) := h ▸ ix_tup
theorem op_neDC {X : Cx} {C : PySem.W.Frag} (hK : X.K = C) (hu : X.A.units + 64 < cLine) : OpR X (compareOp .NotEq) (rNeD C) := hK ▸ op_neD hu
section
variable {P : Program} {w : World} {K : PySem.W.Frag} {mg : Str → Option Value} {base : Heap}
theorem find_perm {R S : List Row} (nd : (R.map (·.1)).Nodup) (p : S.Perm R) (q : Spot) : S.find? (fun r => decide (r.1 = q)) = R.find? (fun r => decide (r.1 = q)) := by
  have ndS : (S.map (·.1)).Nodup := (p.map _).nodup_iff.mpr nd
  cases e : R.find? (fun r => decide (r.1 = q)) with
  | none => exact find_none.mpr fun r hr => find_none.mp e r (p.mem_iff.mp hr)
  | some r =>
    obtain ⟨h1, h2⟩ := find_mem e
    rw [← h2]
    exact mem_find ndS (p.mem_iff.mpr h1)
theorem ent_of_perm {m : Int} {R S : List Row} (nd : (R.map (·.1)).Nodup) (p : S.Perm R) (x : Spot) : ent m S x = ent m R x := by
  unfold ent
  rw [find_perm nd p]
theorem Good.perm {m : Int} {R S : List Row} (g : Good m R) (p : S.Perm R) : Good m S :=
  ⟨g.m1, g.m5, (p.map _).nodup_iff.mpr g.nd, fun r hr => g.at_ r (p.mem_iff.mp hr), fun r hr => g.go r (p.mem_iff.mp hr)⟩
theorem Least.good {m k : Int} {S : List Row} (h : Least m S k) (g : Good m S) : Good k (redS k S) := red_good g h.1 h.2.1
theorem Least.ent {m k : Int} {S : List Row} (h : Least m S k) (g : Good m S) : ∀ x, ent k (redS k S) x = ent m S x := red_ent g h.1 h.2.1 ((ok_iff g h.1).mp h.2.2.1).1 (Bool.and_eq_true_iff.mp h.2.2.1).2
theorem red_len {k : Int} {S : List Row} : (redS k S).length ≤ S.length := List.length_filter_le _ _
theorem sameN {H : Hp} {a b : Addr} {m m2 : Int} {S S2 : List Row} {Q : VK} {E : XK} {σ : L2.St} (pa : PlanAt K H a m S) (pb : PlanAt K H b m2 S2) (g : Good m S) (g2 : Good m2 S2) (l1 : S.length ≤ 50000) (l2 : S2.length ≤ 50000)
    (k : ∀ (c : Bool) H', L2.Same H H' → (c = true ↔ ∀ p, ent m S p = ent m2 S2 p) → Q (.bl c) H') : tNil σ H (fun vs H2 => spSame K (.ref a :: .ref b :: vs) H2 Q E) := ⟨a, b, m, m2, S, S2, rfl, pa, pb, g, g2, l1, l2, k⟩
theorem prdN {H : Hp} {a : Addr} {m : Int} {S : List Row} {Q : VK} {E : XK} (pa : PlanAt K H a m S) (k : Q (.int m) H) : spPrd K [.ref a] H Q E := by
  obtain ⟨dx, d, hi⟩ := plan_ins pa
  exact ⟨a, dx, d, m, rfl, hi, k⟩
theorem fil_dec {S : List Row} {p : Row → Bool} : S.filterMap (fun q => if p q = true then some q else none) = S.filter p := by
  induction S with
  | nil => rfl
  | cons q S ih =>
    cases c : p q with
    | true => rw [List.filterMap_cons_some (b := q) (by rw [c]; rfl), List.filter_cons_of_pos c, ih]
    | false => rw [List.filterMap_cons_none (by rw [c]; rfl), List.filter_cons_of_neg (by rw [c]; exact Bool.false_ne_true), ih]
def spRR (K : PySem.W.Frag) : Sp := fun vs H Q _ => ∃ a m d l S R ns, vs = [.ref a, .int m, .ref d, .ref l] ∧ PlanAt K H a m S ∧ MT H d R ∧ S.Perm R ∧ Good m R ∧ R.length ≤ 200 ∧ H l = some (.lst (ns.map V.str)) ∧ NsOk ns ∧ ns.length ≤ 5 ∧ ∀ H', L2.Same H H' → Q (.bl true) H'
theorem d_reduced_right (T : Txt K mg) : Df P w K mg base 12 "_law_reduced_right" ["_law_made", "_law_span", "_law_mates_here", "_law_labels"] (spRR K) := by
  have D_l_least := d_lleast (P := P) (w := w) (base := base) T
  obtain ⟨pp, hpp⟩ := T.p_period
  refine T.S_l_reduced_right.by sc_l_reduced_right (fun vs H Q E h => ?_) (fun f cdv A outer s H vs Q E hr hgd h => ?_)
  · obtain ⟨a, m, d, l, S, R, ns, rfl, _⟩ := h; rfl
  · obtain ⟨a, m, d, l, S, R, ns, rfl, pa, mt, pm, gR, lR, hl, nok, n5, kk⟩ := h
    refine ⟨_, (pss_cons (ps_set (i := 4) sc_l_reduced_right.nd rfl (by first | exact Or.inl rfl | exact Or.inr rfl) (pe_methP0 (pv 0) T.cls T.m_reduced (d_reduced T).fp (hr.mono (by first | decide | omega)) hgd))
      (pss_cons (ps_if (PW.pt (pw_or (pt_cmpR op_ne (pe_propP (pv 4) T.cls hpp (d_period T).fp (hr.mono (by decide)) hgd) (pe_own D_l_least (hr.mono (by first | decide | omega)) hgd (pa_cons (pv 1) (pa_cons (pv 2) pa_nil))) (nomark _)) (pw_or (pt_not (pt_val (Rx.pe_methX Rx.takesNo (pv 4) T.cls T.m_is_same (Rx.FnPX.of (d_same T).fp) (hr.mono (by first | decide | omega)) hgd (pa_cons (pv 0) pa_nil)))) (pw_or1 (pt_not (pt_val (Rx.pe_methX Rx.takesNo (pv 0) T.cls T.m_is_same (Rx.FnPX.of (d_same T).fp) (hr.mono (by first | decide | omega)) hgd (pa_cons (pv 4) pa_nil)))))))) (pss_one (ps_ret pe_bl)) pss_nil)
      (pss_cons (ps_if (PW.pt (pw_or (pt_cmpR (op_neP T.f___eq__ T.i___eq__ T.ne T.mo (d_eq T).fp (hr.mono (by decide)) hgd) (pe_methP0 (pv 4) T.cls T.m_reduced (d_reduced T).fp (hr.mono (by first | decide | omega)) hgd) (pv 4) (nomark _)) (pw_or1 (pt_cmpR op_ne (pe_cmpR (op_eqP T.f___eq__ T.i___eq__ (d_eq T).fp (hr.mono (by decide)) hgd) (pv 4) (pv 0) (nomark _)) (pe_cmpR op_eq (pe_propP (pv 4) T.cls hpp (d_period T).fp (hr.mono (by decide)) hgd) (pv 1) (nomark _)) (nomark _))))) (pss_one (ps_ret pe_bl)) pss_nil)
      (pss_cons (ps_for PassesOwn.never rfl (pi_range2 (by rfl) T.n_range (pa_cons (pe_op op_sub pe_int (pv 1)) (pa_cons (pe_op op_mul pe_int (pv 1)) pa_nil))) (pg_name (i := 5) sc_l_reduced_right.nd rfl (by first | exact Or.inl rfl | exact Or.inr rfl)) (pss_one (ps_if (pt_val (pe_callB (cr_any rfl) (by rfl) T.n_any (by decide +kernel) (pa_cons (pe_lc (own := [("_law_label", 6)]) rfl sc_l_reduced_right.nd (pi_list (pv 3)) (blkOk_by (own := [("_law_label", 6)]) (N := ["_law_made", "_law_span", "_law_mates_here", "_law_labels", "_law_near", "_law_at", "_law_label", "_law_spot"]) (sc := defScope s_l_reduced_right) (by decide +kernel)) (fun _ _ _ _ _ => (pg_name (i := 6) sc_l_reduced_right.nd rfl (by first | exact Or.inl rfl | exact Or.inr rfl))) (fun _ _ _ _ _ => pts_nil) (fun _ _ _ _ _ => (pe_cmpR (op_neDC (C := K) rfl (un64 hr)) (pe_callP (pv 4) T.co (d_call T).fp (hr.mono (by decide)) hgd (pa_cons (pv 5) (pa_cons (pv 6) pa_nil))) (pe_callP (pv 0) T.co (d_call T).fp (hr.mono (by decide)) hgd (pa_cons (pv 5) (pa_cons (pv 6) pa_nil))) (nomark _)))) pa_nil))) (pss_one (ps_ret pe_bl)) pss_nil)))
      (pss_one (ps_ret (pe_cmpR (op_eqT (un70 hr)) (pe_methP0 (pv 4) T.cls T.m_partners (d_partners T).fp (hr.mono (by first | decide | omega)) hgd) (pe_callTy  (call_dictPT rfl (un8 hr)) (by rfl) T.n_dict (by decide +kernel) (pa_cons (pe_lock (pe_lc (own := [("_law_spot", 7)]) rfl sc_l_reduced_right.nd (pi_keys (pv 2)) (blkOk_by (own := [("_law_spot", 7)]) (N := ["_law_made", "_law_span", "_law_mates_here", "_law_labels", "_law_near", "_law_at", "_law_label", "_law_spot"]) (sc := defScope s_l_reduced_right) (by decide +kernel)) (fun _ _ _ _ _ => (pg_name (i := 7) sc_l_reduced_right.nd rfl (by first | exact Or.inl rfl | exact Or.inr rfl))) (fun _ _ _ _ _ => pts_one (pt_cmpR op_lt (pe_ix  (ix_tupK (C := K) rfl) (pv 7) pe_int (fun _ _ => rfl)) (pe_propP (pv 4) T.cls hpp (d_period T).fp (hr.mono (by decide)) hgd) (nomark _))) (fun _ _ _ _ _ => (pe_tup (pa_cons (pv 7) (pa_cons (pe_dget (hu_of hr) (pv 2) (pv 7) (fun _ _ => rfl)) pa_nil)))))) pa_nil)) (nomark _)))))))), ?_⟩
    have g : Good m S := gR.perm pm
    have eSR : ∀ x, ent m S x = ent m R x := ent_of_perm gR.nd pm
    have lS : S.length ≤ 50000 := by rw [pm.length_eq]; omega
    have m1 := g.m1
    have m5 := g.m5
    have eqF : ∀ x : V, V.bl (!decide (x = x)) = V.bl false := fun x => by rw [decide_eq_true rfl]; rfl
    obtain ⟨dx, d', hi⟩ := plan_ins pa
    refine ⟨_, rfl, a, dx, _, rfl, hi, rfl, redN pa g lS fun x k H1 s1 le px => ?_⟩
    have gk := le.good g
    have ek := le.ent g
    have lk : (redS k S).length ≤ 50000 := Nat.le_trans red_len lS
    obtain ⟨dx1, d1, hi1⟩ := plan_ins px
    have pa1 := pa.same s1
    refine ⟨_, rfl, x, dx1, _, rfl, hi1, prdN px ?_⟩
    refine ⟨_, rfl, _, rfl, d, m, R, rfl, mt.same s1, gR, fun k' H2 s2 le' => ?_⟩
    have ekk : k = k' := least_fun g gR eSR le le'
    subst ekk
    refine ⟨rfl, false, eqF _, iteF ?_⟩
    have px2 := px.same s2
    have pa2 := pa1.same s2
    refine ⟨_, rfl, x, dx1, _, rfl, s2 _ _ hi1, rfl, _, rfl, sameN px2 pa2 gk g lk lS fun c H3 s3 hc => ?_⟩
    rw [hc.mpr ek]
    refine ⟨_, rfl, iteF ?_⟩
    have t3 := s2.trans s3
    have px3 := px.same t3
    have pa3 := pa1.same t3
    refine ⟨_, rfl, a, dx, _, rfl, t3 _ _ (s1 _ _ hi), rfl, _, rfl, sameN pa3 px3 g gk lS lk fun c2 H4 s4 hc2 => ?_⟩
    rw [hc2.mpr fun p => (ek p).symm]
    refine ⟨_, rfl, iteF ?_⟩
    have t4 := t3.trans s4
    have px4 := px.same t4
    have pa4 := pa1.same t4
    refine ⟨_, rfl, x, dx1, _, rfl, t4 _ _ hi1, rfl, redN px4 gk lk fun y k2 H5 s5 le2 py => ?_⟩
    have e2 : k2 = k := least_fun gk g ek le2 le
    have ey := le2.ent gk
    have gy := le2.good gk
    have t5 := t4.trans s5
    have px5 := px.same t5
    have pa5 := pa1.same t5
    refine ⟨_, rfl, plan_eq T py px5 gy gk fun c3 hc3 => ?_⟩
    rw [hc3.mpr ⟨e2, ey⟩]
    refine ⟨false, rfl, iteF ?_⟩
    refine ⟨_, rfl, _, rfl, plan_eq T px5 pa5 gk g fun c4 hc4 => ?_⟩
    refine ⟨_, rfl, x, dx1, _, rfl, t5 _ _ hi1, prdN px5 ?_⟩
    refine ⟨_, rfl, rfl, ?_⟩
    have ec4 : c4 = decide (V.int k = V.int m) := by
      by_cases z : k = m
      · rw [hc4.mpr ⟨z, ek⟩, z, decide_eq_true rfl]
      · rw [decide_eq_false fun y => z (V.int.inj y)]
        cases c4 with
        | false => rfl
        | true => exact absurd (hc4.mp rfl).1 z
    subst ec4
    refine ⟨rfl, false, eqF _, iteF ?_⟩
    clear hc hc2 hc3 hc4 py le2 ey gy e2
    have hl5 := t5 _ _ (s1 _ _ hl)
    have v5 := s1.trans t5
    have cb := le.2.1
    refine ⟨_, rfl, 0, m, rfl, rfl, _, rfl, 2, m, rfl, rfl, .inl ⟨by omega, by omega⟩, 0 - m, 2 * m, rfl, ⟨by omega, by omega, by omega, by omega⟩, ?_⟩
    refine for_it walk_range (fun i σ J => ∃ s5 : Option V, σ = [some (.ref a), some (.int m), some (.ref d), some (.ref l), some (.ref x), s5, none, none] ∧ L2.Same H5 J)
      ⟨_, rfl, Same.refl _⟩ (fun _ _ _ _ _ => trivial) (fun i z σ J J2 hi2 hP yy => ?_) (fun σ J hP => ?_)
    · obtain ⟨s5', rfl, sJ⟩ := hP
      obtain ⟨rfl, rfl⟩ := yy
      have pxJ := px5.same sJ
      have paJ := pa5.same sJ
      have hlJ := sJ _ _ hl5
      obtain ⟨at_, hat⟩ : ∃ at_ : Int, 0 - m + (i : Int) = at_ := ⟨_, rfl⟩
      show gName 5 (V.int (0 - m + (i : Int))) _ _ _
      rw [hat]
      refine ⟨_, rfl, l, rfl, ⟨_, SqL.of hlJ⟩, fun D nD => ?_⟩
      refine lc_pure (walk_list (xs := ns.map V.str)) nD (by rw [List.length_map]; omega) (fun _ sm => SqL.of (sm _ _ hlJ)) (fun i y => y = .bl false) (fun i x2 H6 H7 Kn Z hi3 sm y q => ?_) (fun H6 ys sm hD hl6 hr6 => ?_)
      · obtain ⟨rfl, hx⟩ := y
        rw [List.getElem?_map] at hx
        obtain ⟨nm, hn, rfl⟩ := Option.map_eq_some_iff.mp hx
        have wn := nok.ok nm (List.mem_of_getElem? hn)
        have px6 := pxJ.same sm
        obtain ⟨dx6, d6, hi6⟩ := plan_ins px6
        refine ⟨rfl, ?_⟩
        refine ⟨_, rfl, x, rfl, _, rfl, _, rfl, ⟨_, _, hi6⟩, x, k, redS k S, at_, nm, rfl, px6, gk.m1, wn, fun v1 J8 t8 pv1 => ?_⟩
        have pa8 := (paJ.same sm).same t8
        obtain ⟨dx8, d8, hi8⟩ := plan_ins pa8
        refine ⟨_, rfl, a, rfl, _, rfl, _, rfl, ⟨_, _, hi8⟩, a, m, S, at_, nm, rfl, pa8, m1, wn, fun v2 J9 t9 pv2 => ?_⟩
        have pv1' := pv1.same t9
        rw [mate_eq.mpr (ek (at_, nm))] at pv1'
        have sh : SeqAt.shaped (pvD (mate m S (at_, nm))) = true := pvD_sh fun s e => by
          rw [mate_ent] at e
          obtain ⟨q, hq, rfl⟩ := Option.map_eq_some_iff.mp e
          obtain ⟨r, hr, _, rfl⟩ := (ent_some g).mp hq
          exact (g.go r hr).2.2
        refine ⟨_, _, pv1'.dp, pv2.dp, sh, sh, ?_⟩
        rw [pvD_same]
        exact q _ _ (t8.trans t9) rfl
      rw [eq_map hl6 hr6] at hD
      have hD : H6 D = some (.lst (((List.range (ns.map V.str).length).map fun _ => false).map V.bl)) := by rw [hD, List.map_map]; rfl
      refine ⟨D, (List.range (ns.map V.str).length).map fun _ => false, rfl, SqL.of hD, false, ?_, iteF ?_⟩
      · refine congrArg V.bl ?_
        rw [List.any_eq_false]
        intro z hz
        obtain ⟨_, _, rfl⟩ := List.mem_map.mp hz
        decide
      exact ⟨_, rfl, sJ.trans sm⟩
    · obtain ⟨s5', rfl, sJ⟩ := hP
      have px6 := px5.same sJ
      have t6 := t5.trans sJ
      refine ⟨_, rfl, x, dx1, _, rfl, t6 _ _ hi1, rfl, x, k, redS k S, rfl, px6, gk.nd, lk, fun e H7 s7 ne mte => ?_⟩
      have v7 := v5.trans (sJ.trans s7)
      have mt7 := mt.same v7
      have px7 := px6.same s7
      have hi7 := s7 _ _ (t6 _ _ hi1)
      refine ⟨d, .dT _, mt7.1, trivial, fun od => ?_⟩
      refine ⟨_, rfl, d, od, rfl, .inr ⟨_, upd_same, fun D nD => ?_⟩⟩
      have lkR : (R.map fun r => (tk r.1, V.ref r.2.1)).length < 100000 := by rw [List.length_map]; omega
      have keep : ∀ {H' : Hp} {u : HO} {c : Addr} {v : HO}, L2.Same (upd H7 d u) H' → H7 c = some v → v ≠ .dT (R.map fun r => (tk r.1, V.ref r.2.1)) → H' c = some v := fun {H' u c v} s hc ne => s _ _ ((upd_ne fun z => by rw [z, mt7.1] at hc; exact ne (Option.some.inj hc).symm).trans hc)
      refine lc_fil (walk_keysT (kvs := R.map fun r => (tk r.1, V.ref r.2.1))) nD lkR (fun _ sm => sm _ _ upd_same) (fun j => R[j]?.bind fun q => if decide (q.1.1 < k) = true then some q else none) PR
        (fun H H' v c s h => h.same s) (fun H xs ys v c hD h => h.mut hD) (fun j x2 H8 H9 Kn Z hj sm _ y q n => ?_) (fun H8 zs sm hD hp5 => ?_)
      · obtain ⟨rfl, kk2, vv, qq, hkv, rfl, hq⟩ := y
        rw [List.length_map] at hj
        have hri : R[j]? = some R[j] := List.getElem?_eq_getElem hj
        rw [List.getElem?_map, hri] at hkv
        cases hkv
        rw [hri, Option.bind_some] at q n
        have hq_ : R[j] ∈ R := List.getElem_mem hj
        generalize R[j] = rj at hri hq hq_ q n
        refine ⟨rfl, _, rfl, qq, _, ((0 : Nat) : Int), .int rj.1.1, rfl, rfl, SqT.of hq, atI_nat rfl, ?_⟩
        have hx9 := keep sm hi7 (fun z => nomatch z)
        refine ⟨_, rfl, x, dx1, _, rfl, hx9, ⟨x, dx1, d1, k, rfl, hx9, ?_⟩⟩
        refine ⟨rj.1.1, k, rfl, rfl, _, rfl, ?_⟩
        refine ite2 (fun c => ?_) (fun c => ?_)
        · refine ⟨_, rfl, _, rfl, _, rfl, d, .ref rj.2.1, rfl, .inr ⟨_, tk rj.1, qq, .inr ⟨od, sm _ _ upd_same⟩, rfl, hq, (row_val gR.nd hq_).symm⟩, by show (2 : Nat) ≤ sizeLine; decide +kernel, fun t nt => ?_⟩
          exact q _ rj _ (if_pos c) (Same.new nt) ⟨t, qq, rfl, upd_same, Same.new nt _ _ hq⟩
        · exact n (if_neg c) _ (Same.refl _)
      · have fzz := sm _ _ upd_same
        refine ⟨fzz, ?_⟩
        have tG := lock_same mt7.1 sm
        rw [List.length_map, range_fil, fil_dec] at hp5
        have hp5 : Paired (PR H8) zs (redS k R) := hp5
        have hpG : Paired (PR (upd H8 d (.dT (R.map fun r => (tk r.1, V.ref r.2.1))))) zs (redS k R) := L2.Paired.mapP hp5 fun v q h => by
          obtain ⟨t, k, e, h1, h2⟩ := h
          exact ⟨t, k, e, (upd_ne fun z => by rw [z, fzz] at h1; cases h1).trans h1, (upd_ne fun z => by rw [z, fzz] at h2; cases h2).trans h2⟩
        have hDG : (upd H8 d (.dT (R.map fun r => (tk r.1, V.ref r.2.1)))) D = some (.lst zs) := (upd_ne fun z => by rw [z, fzz] at hD; cases hD).trans hD
        generalize upd H8 d (.dT (R.map fun r => (tk r.1, V.ref r.2.1))) = G1 at tG hpG hDG ⊢
        have gkR := le'.good gR
        obtain ⟨as1, rfl, pa1⟩ := pr_rows hpG
        refine ⟨D, as1, _, rfl, SqL.of hDG, pa1, keys_nd gkR.nd, fun dd ndd => ?_⟩
        have sd := Same.new (o := .dT ((redS k R).map fun r => (tk r.1, V.ref r.2.1))) ndd
        have mtd : MT (upd G1 dd (.dT ((redS k R).map fun r => (tk r.1, V.ref r.2.1)))) dd (redS k R) := ⟨upd_same, fun q hq => (tG.trans sd) _ _ (mt7.2 q (List.mem_filter.mp hq).1)⟩
        have mte2 := mte.same (tG.trans sd)
        have pct : (ct (redS k S)).Perm (ct (redS k R)) := (pm.filter _).map _
        refine ⟨e, dd, _, _, rfl, rfl, .inl mte2.1, .inl mtd.1, .inr ⟨?_, perm_same mte2 mtd gk.rok pct gk.nd, ?_⟩⟩
        · rw [List.length_map, List.length_map]
          exact (pm.filter _).length_eq
        · exact kk _ (v7.trans (tG.trans sd))
end
end K63

set_option Elab.async false
set_option linter.all false
set_option maxRecDepth 100000
set_option maxHeartbeats 4000000
namespace K63
open PySem L2 Lay Own SrtO Tv Ow
local macro_rules | `(tactic| walk_at "ne") => `(tactic| first | assumption | (apply Ne.symm; assumption) | exact ne_of_none (by walk_at "look") (by assumption) | exact (ne_of_none (by walk_at "look") (by assumption)).symm)
local macro_rules | `(tactic| walk_at "look") => `(tactic| first | assumption | exact upd_same | (refine Eq.trans (upd_ne ?_) ?_; walk_at "ne"; walk_at "look"))
local macro_rules | `(tactic| walk_at "rds") => `(tactic| first | rfl | assumption | walk_at "look" | exact SqL.of (by walk_at "look") | exact SqT.of (by walk_at "look") | exact Or.inl (SqL.of (by walk_at "look")) | exact Or.inl (by assumption) | decide | omega | exact Nat.le_of_ble_eq_true rfl | exact Or.inr ⟨by decide, by decide⟩ | exact Or.inl ⟨by omega, by omega⟩ | exact ⟨by decide, by decide⟩)
local macro_rules | `(tactic| walk_at "rd1") => `(tactic| first | (apply Exists.intro) | (refine And.intro ?_ ?_; walk_at "rds") | (refine Or.inl ?_; apply Exists.intro; refine And.intro ?_ ?_; rfl))
local macro_rules | `(tactic| walk_at "rd") => `(tactic| repeat walk_at "rd1")
theorem three (x y z : Int) {d : Int} (d0 : 0 ≤ d) (d3 : d < 3) : ∃ b, atI ([x, y, z].map V.int) d = some (.int b) ∧ (b = x ∨ b = y ∨ b = z) := by
  obtain ⟨n, rfl⟩ : ∃ n : Nat, d = n := ⟨d.toNat, by omega⟩
  match n, d3 with
  | 0, _ => exact ⟨x, rfl, .inl rfl⟩
  | 1, _ => exact ⟨y, rfl, .inr (.inl rfl)⟩
  | 2, _ => exact ⟨z, rfl, .inr (.inr rfl)⟩
  | n + 3, h => omega
section
variable {P : Program} {w : World} {K : PySem.W.Frag} {mg : Str → Option Value} {base : Heap}
theorem ini_use2 {H : Hp} {x dx d : Addr} {m : Int} {ns : List Str} {R : List Row} {W : VK} (nx : H x = none) (nd : H dx = none) (ne : dx ≠ x) (mt : MT H d R) (ok : MOk m ns R) (nok : NsOk ns) (m1 : 1 ≤ m) (m5 : m ≤ 500) (lR : R.length ≤ 200)
    (k : ∀ S H', L2.Same H H' → PlanAt K H' x m S → S.Perm R → W .non H') : spIni K [.ref x, .int m, .ref d] (upd (upd H dx (.own x)) x (.ins (kp K) dx [])) W E0 := by
  have s1 : L2.Same H (upd (upd H dx (.own x)) x (.ins (kp K) dx [])) := (Same.new nd).trans (Same.new ((upd_ne fun z => ne z.symm).trans nx))
  refine ⟨x, dx, d, m, ns, R, rfl, upd_same, (upd_ne ne).trans upd_same, mt.same s1, ok, nok, m1, m5, lR, fun S H' keep pl _ pS sS => k S H' (fun b o e => ?_) pl pS⟩
  exact keep _ _ (s1 _ _ e) fun z => by rw [z, nx] at e; cases e
theorem rrN {H : Hp} {a d l : Addr} {m : Int} {S R : List Row} {ns : List Str} {Q : VK} {E : XK} (pa : PlanAt K H a m S) (mt : MT H d R) (pm : S.Perm R) (g : Good m R) (lR : R.length ≤ 200) (hl : H l = some (.lst (ns.map V.str))) (nok : NsOk ns) (n5 : ns.length ≤ 5)
    {σ : L2.St} (k : ∀ H', L2.Same H H' → Q (.bl true) H') : tNil σ H (fun vs H2 => spRR K (.ref a :: .int m :: .ref d :: .ref l :: vs) H2 Q E) := ⟨a, m, d, l, S, R, ns, rfl, pa, mt, pm, g, lR, hl, nok, n5, k⟩
theorem bools_eq (c : Bool) : PyData.eqv (.list [.bool c, .bool c, .bool c]) (.list [.bool c, .bool c, .bool c]) = true := by
  cases c <;> decide
theorem bools_sh (c : Bool) : SeqAt.shaped (.list [.bool c, .bool c, .bool c]) = true := by
  cases c <;> decide
def spRig (K : PySem.W.Frag) : Sp := fun vs H Q _ => ∃ p, vs = [.ref p] ∧ H p = some (PotO p) ∧ ∀ H', L2.Same H H' → Q (.bl true) H'
theorem d_right (T : Txt K mg) : Df P w K mg base 13 "_law_right" ["_law_pot_here"] (spRig K) := by
  have D_l_draw := d_draw (P := P) (w := w) (base := base) T
  have D_l_named := d_lnames (P := P) (w := w) (base := base) T
  have D_l_mates := d_mates (P := P) (w := w) (base := base) T
  have D_l_longer := d_longer (P := P) (w := w) (base := base) T
  have D_l_others := d_others (P := P) (w := w) (base := base) T
  have D_l_are_same := d_are_same (P := P) (w := w) (base := base) T
  have D_l_reduced_right := d_reduced_right (P := P) (w := w) (base := base) T
  obtain ⟨fdt, Gt, _, _, Kt, _⟩ := d_same (P := P) (w := w) (base := base) T
  refine T.S_l_right.by sc_l_right (fun vs H Q E h => ?_) (fun f cdv A outer s H vs Q E hr hgd h => ?_)
  · obtain ⟨p, rfl, _⟩ := h; rfl
  · obtain ⟨p, rfl, hp, k⟩ := h
    refine ⟨_, (pss_cons (ps_set (i := 1) sc_l_right.nd rfl (by first | exact Or.inl rfl | exact Or.inr rfl) (pe_callBK (cr_sortedKS (un70 hr)) (by rfl) T.n_sorted (by decide +kernel) (pa_cons (pe_own D_l_named (hr.mono (by first | decide | omega)) hgd (pa_cons (pv 0) (pa_cons (pe_op op_add pe_int (pe_own D_l_draw (hr.mono (by first | decide | omega)) hgd (pa_cons (pv 0) (pa_cons pe_int pa_nil)))) pa_nil))) pa_nil) (pk_cons (pe_bltn (v := .ty "str") (u := .type "str") (by rfl) T.n_str (by decide +kernel) rfl) pk_nil)))
      (pss_cons (ps_set (i := 2) sc_l_right.nd rfl (by first | exact Or.inl rfl | exact Or.inr rfl) (pe_op op_add pe_int (pe_own D_l_draw (hr.mono (by first | decide | omega)) hgd (pa_cons (pv 0) (pa_cons (pe_ix ix_list (pe_lst (pa_cons pe_int (pa_cons pe_int (pa_cons pe_int pa_nil)))) (pe_own D_l_draw (hr.mono (by first | decide | omega)) hgd (pa_cons (pv 0) (pa_cons pe_int pa_nil))) (fun _ _ => rfl)) pa_nil)))))
      (pss_cons (ps_asg (pe_own D_l_longer (hr.mono (by first | decide | omega)) hgd (pa_cons (pv 2) (pa_cons (pe_own D_l_mates (hr.mono (by first | decide | omega)) hgd (pa_cons (pv 0) (pa_cons (pv 1) (pa_cons (pv 2) (pa_cons pe_int pa_nil))))) (pa_cons (pe_op op_add pe_int (pe_own D_l_draw (hr.mono (by first | decide | omega)) hgd (pa_cons (pv 0) (pa_cons pe_int pa_nil)))) pa_nil)))) (pg_tup rfl (pgs_cons (pg_name (i := 3) sc_l_right.nd rfl (by first | exact Or.inl rfl | exact Or.inr rfl)) (pgs_cons (pg_name (i := 4) sc_l_right.nd rfl (by first | exact Or.inl rfl | exact Or.inr rfl)) pgs_nil))))
      (pss_cons (ps_set (i := 5) sc_l_right.nd rfl (by first | exact Or.inl rfl | exact Or.inr rfl) (pe_makeP T.maker (d_init T).fp (hr.mono (by first | decide | omega)) hgd T.g_Plan (pa_cons (pv 3) (pa_cons (pv 4) pa_nil))))
      (pss_cons (ps_set (i := 6) sc_l_right.nd rfl (by first | exact Or.inl rfl | exact Or.inr rfl) (pe_callB  (call_reprP T.f___repr__ T.i___repr__ (d_repr T).fp (hr.mono (by decide)) hgd) (by rfl) T.n_repr (by decide +kernel) (pa_cons (pv 5) pa_nil)))
      (pss_cons (ps_for PassesOwn.never rfl (pi_list (pe_own D_l_others (hr.mono (by first | decide | omega)) hgd (pa_cons (pv 0) (pa_cons (pv 3) (pa_cons (pv 4) (pa_cons (pv 1) pa_nil)))))) (pg_tup rfl (pgs_cons (pg_name (i := 7) sc_l_right.nd rfl (by first | exact Or.inl rfl | exact Or.inr rfl)) (pgs_cons (pg_name (i := 8) sc_l_right.nd rfl (by first | exact Or.inl rfl | exact Or.inr rfl)) pgs_nil))) (pss_cons (ps_set (i := 9) sc_l_right.nd rfl (by first | exact Or.inl rfl | exact Or.inr rfl) (pe_makeP T.maker (d_init T).fp (hr.mono (by first | decide | omega)) hgd T.g_Plan (pa_cons (pv 7) (pa_cons (pv 8) pa_nil))))
      (pss_cons (ps_set (i := 10) sc_l_right.nd rfl (by first | exact Or.inl rfl | exact Or.inr rfl) (pe_own D_l_are_same (hr.mono (by first | decide | omega)) hgd (pa_cons (pe_tup (pa_cons (pv 3) (pa_cons (pv 4) pa_nil))) (pa_cons (pe_tup (pa_cons (pv 7) (pa_cons (pv 8) pa_nil))) (pa_cons (pv 1) pa_nil)))))
      (pss_cons (ps_if (pt_cmpR (op_neDC (C := K) rfl (un64 hr)) (pe_lst (pa_cons (Rx.pe_methX Rx.takesNo (pv 5) T.cls T.m_is_same (Rx.FnPX.of (d_same T).fp) (hr.mono (by first | decide | omega)) hgd (pa_cons (pv 9) pa_nil)) (pa_cons (Rx.pe_methXK Rx.takesNo (pv 9) T.cls T.m_is_same (Rx.FnGX.of Gt) Kt (hr.mono (by first | decide | omega)) hgd (pk_cons (pv 5) pk_nil)) (pa_cons (pe_cmpR (op_eqP T.f___eq__ T.i___eq__ (d_eq T).fp (hr.mono (by decide)) hgd) (pe_methP0 (pv 5) T.cls T.m_reduced (d_reduced T).fp (hr.mono (by first | decide | omega)) hgd) (pe_methP0 (pv 9) T.cls T.m_reduced (d_reduced T).fp (hr.mono (by first | decide | omega)) hgd) (nomark _)) pa_nil)))) (pe_op op_rep (pe_lst (pa_cons (pv 10) pa_nil)) pe_int) (nomark _)) (pss_one (ps_ret pe_bl)) pss_nil)
      (pss_one (ps_if (PW.pt (pw_or (PW.pt (pw_and (pt_cmpR (op_eqP T.f___eq__ T.i___eq__ (d_eq T).fp (hr.mono (by decide)) hgd) (pv 5) (pv 9) (nomark _)) (pw_and1 (pt_not (pt_val (pv 10)))))) (pw_or1 (pt_not (pt_val (pe_own D_l_reduced_right (hr.mono (by first | decide | omega)) hgd (pa_cons (pv 9) (pa_cons (pv 7) (pa_cons (pv 8) (pa_cons (pv 1) pa_nil)))))))))) (pss_one (ps_ret pe_bl)) pss_nil))))))
      (pss_one (ps_ret (pe_and (pe_own D_l_reduced_right (hr.mono (by first | decide | omega)) hgd (pa_cons (pv 5) (pa_cons (pv 3) (pa_cons (pv 4) (pa_cons (pv 1) pa_nil))))) (pe_one (pe_cmpR op_eq (pe_callB  (call_reprP T.f___repr__ T.i___repr__ (d_repr T).fp (hr.mono (by decide)) hgd) (by rfl) T.n_repr (by decide +kernel) (pa_cons (pv 5) pa_nil)) (pv 6) (nomark _)))))))))))), ?_⟩
    refine ⟨_, rfl, _, rfl, p, 3, rfl, hp, by decide, by decide, fun d H1 d0 d1 s1 => ?_⟩
    obtain ⟨n, rfl⟩ : ∃ n : Nat, d = n := ⟨d.toNat, by omega⟩
    have en : (1 : Int) + (n : Int) = ((1 + n : Nat) : Int) := by omega
    refine ⟨1, (n : Int), rfl, rfl, ?_⟩
    refine ⟨p, 1 + n, (by show [V.ref p, V.int (1 + (n : Int))] = _; rw [en]), s1 _ _ hp, by omega, fun l0 ns0 H2 s2 nl0 hl0 ok0 len0 => ?_⟩
    have t2 := s1.trans s2
    refine ⟨l0, ns0, rfl, rfl, SqL.of hl0, fun ns l pm sd nl => ?_⟩
    have s3 := Same.new (o := .lst (ns.map V.str)) nl
    have hl := (upd_same : (upd H2 l (.lst (ns.map V.str))) l = _)
    have t3 := t2.trans s3
    have nok : NsOk ns := ⟨pm.nodup_iff.mpr ok0.nd, fun z hz => ok0.ok z (pm.mem_iff.mp hz)⟩
    have ln : ns.length = 1 + n := by rw [pm.length_eq]; exact len0
    generalize upd H2 l (.lst (ns.map V.str)) = H3 at hl t3 ⊢
    clear s3 nl t2 s2 hl0 nl0 s1
    refine ⟨_, rfl, by show (3 : Nat) ≤ sizeLine; decide +kernel, fun q nq => ?_⟩
    have s1 := Same.new (o := .lst ([6, 6, 83].map V.int)) nq
    have hq := (upd_same : (upd H3 q (.lst ([6, 6, 83].map V.int))) q = _)
    refine ⟨_, rfl, p, 3, rfl, s1 _ _ (t3 _ _ hp), by decide, by decide, fun d2 H4 e0 e1 s4 => ?_⟩
    obtain ⟨b, hb, b7⟩ := three 6 6 83 e0 e1
    have t4 := t3.trans (s1.trans s4)
    have hl4 := s4 _ _ (s1 _ _ hl)
    refine ⟨q, _, d2, _, rfl, rfl, SqL.of (s4 _ _ hq), hb, ?_⟩
    refine ⟨p, b, rfl, t4 _ _ hp, by omega, by omega, fun d3 H5 f0 f1 s5 => ?_⟩
    clear hb hq
    obtain ⟨k2, rfl⟩ : ∃ n : Nat, d3 = n := ⟨d3.toNat, by omega⟩
    refine ⟨1, (k2 : Int), rfl, rfl, ?_⟩
    have t5 := t4.trans s5
    have hl5 := s5 _ _ hl4
    obtain ⟨b0, hb0⟩ : ∃ b0 : Int, (1 : Int) + (k2 : Int) = b0 := ⟨_, rfl⟩
    show gName 2 (V.int ((1 : Int) + (k2 : Int))) _ _ _
    rw [hb0]
    refine ⟨_, rfl, _, rfl, _, rfl, _, rfl, p, l, ns, b0, 6, rfl, t5 _ _ hp, hl5, nok, by omega, by omega, by omega, by omega, by decide, by decide, fun d R0 H6 s6 nd mt0 ok0' lR0 => ?_⟩
    have t6 := t5.trans s6
    refine ⟨_, rfl, p, 3, rfl, t6 _ _ hp, by decide, by decide, fun d4 H7 g0 g1 s7 => ?_⟩
    obtain ⟨j, rfl⟩ : ∃ n : Nat, d4 = n := ⟨d4.toNat, by omega⟩
    refine ⟨1, (j : Int), rfl, rfl, ?_⟩
    have ej : (1 : Int) + (j : Int) = ((1 + j : Nat) : Int) := by omega
    refine ⟨d, b0, 1 + j, R0, (by show [V.int b0, V.ref d, V.int (1 + (j : Int))] = _; rw [ej]), mt0.same s7, ok0'.nd, fun r hr => ⟨(ok0'.at_ r hr).1, (ok0'.at_ r hr).2.1⟩, by omega, by omega, by omega, by omega, by omega, fun t1 d1 H8 s8 ht1 mt => ?_⟩
    have ok : MOk (b0 * ((1 + j : Nat) : Int)) ns (tmL b0 (1 + j) R0) := tml_mok ok0' (by omega) (by omega)
    have lR : (tmL b0 (1 + j) R0).length ≤ 36 := by
      rw [tml_len]
      exact Nat.le_trans (Nat.mul_le_mul (show 1 + j ≤ 3 by omega) (show R0.length ≤ 12 by omega)) (by decide)
    have mb : 1 ≤ b0 * ((1 + j : Nat) : Int) ∧ b0 * ((1 + j : Nat) : Int) ≤ 250 := by
      rcases (by omega : j = 0 ∨ j = 1 ∨ j = 2) with rfl | rfl | rfl <;> constructor <;> omega
    have t8 := t6.trans (s7.trans s8)
    have hl8 := s8 _ _ (s7 _ _ (s6 _ _ hl5))
    clear mt0 ok0' s6 s7 s8 t6 s5 t5 s4 s1 t4 t3 hl4 hl5 hl
    generalize tmL b0 (1 + j) R0 = R at ok mt lR
    obtain ⟨mN, hmN⟩ : ∃ mN : Nat, b0 * ((1 + j : Nat) : Int) = (mN : Int) := ⟨(b0 * ((1 + j : Nat) : Int)).toNat, by omega⟩
    rw [hmN] at ok ht1 mb
    refine ⟨t1, _, rfl, SqT.of ht1, rfl, _, _, rfl, _, _, rfl, rfl, ?_⟩
    have eqF : ∀ x : V, V.bl (!decide (x = x)) = V.bl false := fun x => by rw [decide_eq_true rfl]; rfl
    refine ⟨_, rfl, _, rfl, ?_⟩
    refine fun x dx nx ndx nxx => ini_use2 nx ndx nxx mt ok nok (by omega) (by omega) (by omega) fun S H9 s9 pl pS => ⟨rfl, ?_⟩
    have lS : S.length ≤ 36 := by rw [pS.length_eq]; exact lR
    have gR : Good (mN : Int) R := ok.good nok (by omega) (by omega)
    have g : Good (mN : Int) S := gR.perm pS
    have t9 := t8.trans s9
    have hl9 := s9 _ _ hl8
    have mt9 := mt.same s9
    obtain ⟨dx9, dd9, hi9⟩ := plan_ins pl
    have rp : ∀ {G : Hp} {Q : VK} {E : XK}, PlanAt K G x (mN : Int) S → Q (.str (planTxt (mN : Int) S)) G → spRep K [.ref x] G Q E := fun pl k => ⟨x, (mN : Int), S, rfl, pl, g.m1, g.m5, g.rok, by omega, k⟩
    refine ⟨_, rfl, x, dx9, _, rfl, hi9, rp pl ⟨_, rfl, ?_⟩⟩
    clear s9 hl8 ht1 nx ndx nxx t8 mt
    refine ⟨_, rfl, _, rfl, _, rfl, _, rfl, p, (mN : Int), d1, l, ns, R, rfl, t9 _ _ hp, mt9, ok, nok, by omega, by omega, by omega, hl9, by omega, by omega, fun q ts H10 r1 hq lts ots => ?_⟩
    have t10 := t9.trans r1
    have mt10 := mt9.same r1
    have pl10 := pl.same r1
    have hi10 := r1 _ _ hi9
    have hl10 := r1 _ _ hl9
    refine ⟨q, rfl, ⟨_, SqL.of hq⟩, ?_⟩
    refine for_it (walk_list (xs := ts.map V.ref)) (fun i σ J => ∃ s7 s8 s9 s10 : Option V, σ = [some (.ref p), some (.ref l), some (.int b0), some (.int (mN : Int)), some (.ref d1), some (.ref x), some (.str (planTxt (mN : Int) S)), s7, s8, s9, s10] ∧ L2.Same H10 J)
      ⟨_, _, _, _, rfl, Same.refl _⟩ (fun i σ J _ q => by obtain ⟨_, _, _, _, _, s⟩ := q; exact SqL.of (s _ _ hq)) (fun i x3 σ J J2 hi2 hP yy => ?_) (fun σ J hP => ?_)
    · obtain ⟨s7, s8, s9', s10, rfl, sJ⟩ := hP
      obtain ⟨rfl, hx⟩ := yy
      rw [List.getElem?_map] at hx
      obtain ⟨t, htm, rfl⟩ := Option.map_eq_some_iff.mp hx
      obtain ⟨f2, e2, R2, ht, mt2, ok2, f1', f5, l2⟩ := ots t (List.mem_of_getElem? htm)
      obtain ⟨f, rfl⟩ : ∃ f : Nat, f2 = (f : Int) := ⟨f2.toNat, by omega⟩
      have g2R : Good (f : Int) R2 := ok2.good nok f1' f5
      have htJ := sJ _ _ ht
      have mt2J := mt2.same sJ
      refine ⟨t, _, rfl, SqT.of htJ, rfl, _, _, rfl, _, _, rfl, rfl, ?_⟩
      refine ⟨_, rfl, _, rfl, ?_⟩
      refine fun y dy ny ndy nyy => ini_use2 ny ndy nyy mt2J ok2 nok (by omega) (by omega) (by omega) fun S2 H11 r2 pl2 pS2 => ⟨rfl, ?_⟩
      have g2 : Good (f : Int) S2 := g2R.perm pS2
      have lS2 : S2.length ≤ 200 := by rw [pS2.length_eq]; exact l2
      have u11 := sJ.trans r2
      have mt11 := mt10.same u11
      have mt211 := mt2J.same r2
      have pl11 := pl10.same u11
      refine ⟨_, rfl, _, rfl, by show (2 : Nat) ≤ sizeLine; decide +kernel, fun u1 nu1 => ?_⟩
      have q1 := Same.new (o := .tup [V.int (mN : Int), V.ref d1]) nu1
      have hu1 := (upd_same : (upd H11 u1 (.tup [V.int (mN : Int), V.ref d1])) u1 = _)
      refine ⟨_, rfl, _, rfl, by show (2 : Nat) ≤ sizeLine; decide +kernel, fun u2 nu2 => ?_⟩
      have q2 := Same.new (o := .tup [V.int (f : Int), V.ref e2]) nu2
      have hu2 := (upd_same : (upd (upd H11 u1 (.tup [V.int (mN : Int), V.ref d1])) u2 (.tup [V.int (f : Int), V.ref e2])) u2 = _)
      have hu1 := q2 _ _ hu1
      have q12 := q1.trans q2
      generalize upd (upd H11 u1 (.tup [V.int (mN : Int), V.ref d1])) u2 (.tup [V.int (f : Int), V.ref e2]) = H12 at q12 hu1 hu2 ⊢
      have u12 := u11.trans q12
      have mtA := mt11.same q12
      have mtB := mt211.same q12
      have plA := pl11.same q12
      have plB := pl2.same q12
      refine ⟨_, rfl, u1, u2, l, d1, e2, mN, f, R, R2, ns, rfl, hu1, hu2, mtA, mtB, gR, g2R, u12 _ _ hl10, fun r hr => (ok.at_ r hr).2.2, fun r hr => (ok2.at_ r hr).2.2, by omega, fun due H13 r3 hdue => ?_⟩
      have mtA := mtA.same r3
      have mtB := mtB.same r3
      have plA := plA.same r3
      have plB := plB.same r3
      have u13 := u12.trans r3
      clear q1 q2 q12 hu1 hu2
      have dueS : due = true ↔ ∀ p, ent (mN : Int) S p = ent (f : Int) S2 p := by
        rw [hdue]
        constructor
        · intro z p
          rw [ent_of_perm gR.nd pS, ent_of_perm g2R.nd pS2]
          exact z p
        · intro z p
          rw [← ent_of_perm gR.nd pS, ← ent_of_perm g2R.nd pS2]
          exact z p
      obtain ⟨dxB, ddB, hiB⟩ := plan_ins plB
      refine ⟨_, rfl, x, dx9, _, rfl, u13 _ _ hi10, rfl, _, rfl, sameN plA plB g g2 (by omega) (by omega) fun c1 H14 r4 hc1 => ?_⟩
      have plA := plA.same r4
      have plB := plB.same r4
      refine ⟨_, rfl, y, dxB, _, rfl, r4 _ _ hiB, rfl, _, rfl, sameN plB plA g2 g (by omega) (by omega) fun c2 H15 r5 hc2 => ?_⟩
      have plA := plA.same r5
      have plB := plB.same r5
      have u15 := u13.trans (r4.trans r5)
      refine ⟨_, rfl, x, dx9, _, rfl, u15 _ _ hi10, rfl, redN plA g (by omega) fun y1 k1 H16 r6 le1 py1 => ?_⟩
      have plA := plA.same r6
      have plB := plB.same r6
      refine ⟨_, rfl, y, dxB, _, rfl, (r4.trans (r5.trans r6)) _ _ hiB, rfl, redN plB g2 (by omega) fun y2 k2 H17 r7 le2 py2 => ?_⟩
      have plA := plA.same r7
      have plB := plB.same r7
      have u17 := u15.trans (r6.trans r7)
      refine plan_eq T (py1.same r7) py2 (le1.good g) (le2.good g2) fun c3 hc3 => ?_
      have e1 : c1 = due := Bool.eq_iff_iff.mpr (hc1.trans dueS.symm)
      have e2' : c2 = due := Bool.eq_iff_iff.mpr (hc2.trans ⟨fun z => dueS.mpr fun p => (z p).symm, fun z p => (dueS.mp z p).symm⟩)
      have e3 : c3 = due := Bool.eq_iff_iff.mpr (hc3.trans ⟨fun z => dueS.mpr fun p => by rw [← le1.ent g, ← le2.ent g2]; exact z.2 p, fun z => ⟨least_fun g g2 (dueS.mp z) le1 le2, fun p => by rw [le1.ent g, le2.ent g2]; exact dueS.mp z p⟩⟩)
      subst e1 e2' e3
      refine ⟨by show (3 : Nat) ≤ sizeLine; decide +kernel, fun v nv => ?_⟩
      have q1 := Same.new (o := .lst [V.bl c3, V.bl c3, V.bl c3]) nv
      have hv := (upd_same : (upd H17 v (.lst [V.bl c3, V.bl c3, V.bl c3])) v = _)
      refine ⟨_, rfl, by show (1 : Nat) ≤ sizeLine; decide +kernel, fun v2 nv2 => ?_⟩
      have q2 := Same.new (o := .lst [V.bl c3]) nv2
      refine ⟨v2, 3, [V.bl c3], rfl, rfl, upd_same, by decide, by decide, by show (3 : Nat) ≤ sizeLine; decide +kernel, fun v3 nv3 => ?_⟩
      have q3 := Same.new (o := .lst (List.replicate (Int.toNat 3) (V.bl c3))) nv3
      have hv3 := (upd_same : (upd (upd (upd H17 v (.lst [V.bl c3, V.bl c3, V.bl c3])) v2 (.lst [V.bl c3])) v3 (.lst [V.bl c3, V.bl c3, V.bl c3])) v3 = _)
      refine ⟨.list [.bool c3, .bool c3, .bool c3], .list [.bool c3, .bool c3, .bool c3], .lst (SqL.of (q3 _ _ (q2 _ _ hv))) (.cons (.bl _) (.cons (.bl _) (.cons (.bl _) .nil))), .lst (SqL.of hv3) (.cons (.bl _) (.cons (.bl _) (.cons (.bl _) .nil))), bools_sh c3, bools_sh c3, ?_⟩
      rw [bools_eq]
      have u18 := u17.trans (q1.trans (q2.trans q3))
      have plA := plA.same (q1.trans (q2.trans q3))
      have plB := plB.same (q1.trans (q2.trans q3))
      have mtB := mtB.same (r4.trans (r5.trans (r6.trans (r7.trans (q1.trans (q2.trans q3))))))
      clear hv hv3
      refine ⟨false, rfl, iteF ?_⟩
      refine ⟨_, rfl, _, rfl, plan_eq T plA plB g g2 fun c4 hc4 => ?_⟩
      have hl18 := u18 _ _ hl10
      cases c4 with
      | false =>
        refine ⟨_, rfl, iteF ?_⟩
        refine ⟨_, rfl, _, rfl, _, rfl, _, rfl, rrN plB mtB pS2 g2R l2 hl18 nok (by omega) fun H18 s18 => ⟨true, rfl, iteF ?_⟩⟩
        exact ⟨_, _, _, _, rfl, u18.trans s18⟩
      | true =>
        have e4 : c3 = true := dueS.mpr (hc4.mp rfl).2
        subst e4
        refine ⟨_, rfl, iteT ?_⟩
        refine ⟨_, rfl, true, rfl, iteF ?_⟩
        refine ⟨_, rfl, _, rfl, _, rfl, _, rfl, rrN plB mtB pS2 g2R l2 hl18 nok (by omega) fun H18 s18 => ⟨true, rfl, iteF ?_⟩⟩
        exact ⟨_, _, _, _, rfl, u18.trans s18⟩
    · obtain ⟨s7, s8, s9', s10, rfl, sJ⟩ := hP
      have mtJ := mt10.same sJ
      have plJ := pl10.same sJ
      refine ⟨_, rfl, _, rfl, _, rfl, _, rfl, rrN plJ mtJ pS gR (by omega) (sJ _ _ hl10) nok (by omega) fun H11 r2 => ⟨true, rfl, iteT ?_⟩⟩
      refine ⟨_, rfl, x, dx9, _, rfl, r2 _ _ (sJ _ _ hi10), rp (plJ.same r2) ⟨_, rfl, ?_⟩⟩
      refine ⟨_, rfl, rfl, ?_⟩
      rw [decide_eq_true rfl]
      exact k _ (t10.trans (sJ.trans r2))
end
end K63

set_option Elab.async false
set_option linter.all false
set_option maxRecDepth 100000
set_option maxHeartbeats 4000000
namespace K63
open PySem L2 Lay Own SrtO Tv Ow
local macro_rules | `(tactic| walk_at "ne") => `(tactic| first | assumption | (apply Ne.symm; assumption) | exact ne_of_none (by walk_at "look") (by assumption) | exact (ne_of_none (by walk_at "look") (by assumption)).symm)
local macro_rules | `(tactic| walk_at "look") => `(tactic| first | assumption | exact upd_same | (refine Eq.trans (upd_ne ?_) ?_; walk_at "ne"; walk_at "look"))
local macro_rules | `(tactic| walk_at "rds") => `(tactic| first | rfl | assumption | walk_at "look" | exact SqL.of (by walk_at "look") | exact SqT.of (by walk_at "look") | exact Or.inl (SqL.of (by walk_at "look")) | exact Or.inl (by assumption) | decide | omega | exact Nat.le_of_ble_eq_true rfl | exact Or.inr ⟨by decide, by decide⟩ | exact Or.inl ⟨by omega, by omega⟩ | exact ⟨by decide, by decide⟩)
local macro_rules | `(tactic| walk_at "rd1") => `(tactic| first | (apply Exists.intro) | (refine And.intro ?_ ?_; walk_at "rds") | (refine Or.inl ?_; apply Exists.intro; refine And.intro ?_ ?_; rfl))
local macro_rules | `(tactic| walk_at "rd") => `(tactic| repeat walk_at "rd1")
section
variable {P : Program} {w : World} {K : PySem.W.Frag} {mg : Str → Option Value} {base : Heap}
def spLaw (K : PySem.W.Frag) : Sp := fun vs H Q _ => ∃ (s : Addr) (ns : List Int), vs = [.ref s] ∧ SqL K H s (ns.map V.int) ∧ ns.length ≤ 63 ∧ ∀ H', L2.Same H H' → Q (.bl true) H'
theorem g_law (T : Txt K mg) {f : Addr} {fd : FuncData} (F : Fun K "law" "law" s_law f fd) : FnG P w K mg base CX0 14 f fd ["_law_script"] (spLaw K) := by
  have D_l_pot := d_pot (P := P) (w := w) (base := base) T
  have D_l_right := d_right (P := P) (w := w) (base := base) T
  refine okG F sc_law (fun vs H Q E h => ?_) (fun cdv A outer s H vs Q E hr hgd h => ?_)
  · obtain ⟨p, _, rfl, _⟩ := h; rfl
  · obtain ⟨p, ns, rfl, hp, hn, k⟩ := h
    refine ⟨_, (pss_one (ps_ret (pe_callB (cr_all rfl) (by rfl) T.n_all (by decide +kernel) (pa_cons (pe_lc (own := [("_law_k", 1)]) rfl sc_law.nd (pi_range1 (by rfl) T.n_range (pa_cons (pe_callB (call_max2 rfl) (by rfl) T.n_max (by decide +kernel) (pa_cons pe_int (pa_cons (pe_callB (call_min2 rfl) (by rfl) T.n_min (by decide +kernel) (pa_cons (pe_callB call_len_seq (by rfl) T.n_len PySem.boot_len (pa_cons (pv 0) pa_nil)) (pa_cons pe_int pa_nil))) pa_nil))) pa_nil)) (blkOk_by (own := [("_law_k", 1)]) (N := ["_law_script", "_law_k"]) (sc := defScope s_law) (by decide +kernel)) (fun _ _ _ _ _ => (pg_name (i := 1) sc_law.nd rfl (by first | exact Or.inl rfl | exact Or.inr rfl))) (fun _ _ _ _ _ => pts_nil) (fun _ _ _ _ _ => (pe_own D_l_right (hr.mono (by first | decide | omega)) hgd (pa_cons (pe_own D_l_pot (hr.mono (by first | decide | omega)) hgd (pa_cons (pv 0) (pa_cons (pv 1) pa_nil))) pa_nil)))) pa_nil)))), ?_⟩
    refine ⟨_, rfl, p, _, rfl, .inl hp, _, 3, rfl, 1, _, rfl, ?_⟩
    rw [List.length_map]
    obtain ⟨N, hN⟩ : ∃ N : Int, (if (if (3 : Int) < ((ns.length : Nat) : Int) then (3 : Int) else ((ns.length : Nat) : Int)) > 1 then (if (3 : Int) < ((ns.length : Nat) : Int) then (3 : Int) else ((ns.length : Nat) : Int)) else 1) = N := ⟨_, rfl⟩
    have nb : 0 ≤ N ∧ N ≤ 3 := by
      rw [← hN]
      split
      · split <;> omega
      · omega
    rw [hN]
    refine ⟨N, rfl, by omega, by omega, fun D nD => ?_⟩
    refine lc_pure (n := N.toNat) walk_range nD (by omega) (fun _ _ => trivial) (fun i y => y = .bl true) (fun i x H4 H5 Kn Z hi sm y q => ?_) (fun H4 xs sm hD hl hr => ?_)
    · obtain ⟨rfl, rfl⟩ := y
      refine ⟨rfl, _, rfl, _, rfl, p, ns, i, by show [V.ref p, V.int (0 + (i : Int))] = _; rw [Int.zero_add], sm.seq hp, hn, by omega, fun t H2 nt s2 ht => ?_⟩
      exact ⟨t, rfl, ht, fun H3 s3 => q _ _ (s2.trans s3) rfl⟩
    · have e : xs = (List.replicate xs.length true).map V.bl := by
        rw [List.map_replicate]
        refine List.eq_replicate_iff.mpr ⟨rfl, fun b hb => ?_⟩
        obtain ⟨i, hi⟩ := List.mem_iff_getElem?.mp hb
        exact hr i b hi
      refine ⟨D, List.replicate xs.length true, rfl, by rw [← e]; exact SqL.of hD, ?_⟩
      have z : (List.replicate xs.length true).all id = true := by
        rw [List.all_eq_true]
        intro x hx
        rw [(List.mem_replicate.mp hx).2]
        rfl
      rw [z]
      exact k _ sm
end
end K63

set_option Elab.async false
set_option linter.all false
set_option maxRecDepth 100000
set_option maxHeartbeats 0
open PySem PySem.W PySem.Calls PyProof.Rows
theorem PySem.Challenge.cw_twoeach_k63_whole_reduced_and_same_holds : PySem.Challenge.rw_twoeach_k63_whole_reduced_and_same.Holds := by
  w_on; o_law
  refine HandSHeadRun.head_any (r := OpenLaw.row PySem.Challenge.rw_twoeach_k63_whole_reduced_and_same) (q := view (OpenLaw.row PySem.Challenge.rw_twoeach_k63_whole_reduced_and_same).prog [44]) (H := K63.hk) (ob := K63.ob) (M := 9600) (loose := K63.looseL) (d := HandSHeadRun.topDef (OpenLaw.row PySem.Challenge.rw_twoeach_k63_whole_reduced_and_same).prog 44) (kwd := []) K63.ob_eq
    (by kernel_rfl) (fun s => by kernel_rfl) K63.run (by kernel_rfl) (by kernel_rfl) (by kernel_rfl) (by rfl) (by first | assumption | decide +kernel) (by decide +kernel) ⟨rfl, rfl, rfl, rfl, rfl, by decide +kernel⟩ ?hw ?hc
  case hw => w_witness2
  case hc =>
    refine Hd.walk_GE (l := PySem.Challenge.rw_twoeach_k63_whole_reduced_and_same) (n := 63) (k := 14) (x := "_law_script") rfl (by decide) (by kernel_rfl) ⟨rfl, by decide, by decide⟩ ?F
    intro w mg fa h Y G hmg0
    obtain ⟨K, KX, cx⟩ := Y
    have c := Hx.saysX_a cx
    have hmg : mg ("law" : PySem.Str) = some (.ref fa) := by
      have e : (HandSHeadRun.topDef (OpenLaw.row PySem.Challenge.rw_twoeach_k63_whole_reduced_and_same).prog 44).name = ("law" : PySem.Str) := by kernel_rfl
      rw [← e]
      exact hmg0
    obtain ⟨fd, F⟩ := Ha.says_d c 28
    have gl := He.glo_ok (x := "law") KX G (K63.fa_at (Ha.says_b c) 50)
    have ea : fa = He.ga K "law" := by
      have z := hmg.symm.trans gl
      cases z
      rfl
    obtain ⟨b1, b2⟩ := Ha.two_of (ps := ["_law_script"]) F (fun _ _ _ _ _ _ us hl => match us, hl with | [_], _ => rfl) (fun _ _ _ _ _ _ p v e => by cases e; rfl)
    refine ⟨K, fd, K63.spLaw K, KX, fun s u => ?_, fun H a ns hl _ hS => ⟨a, ns, rfl, hS, hl, fun _ _ => rfl⟩, fun base kb nb => ?_⟩
    · obtain ⟨oc, od, kV, doc, pm, an, cdv, ct, osl, rfl, lk, hcd⟩ := F.ex
      exact BindsTo.of_eq (by rfl)
    · subst ea
      exact K63.g_law (K63.txt KX G cx) F

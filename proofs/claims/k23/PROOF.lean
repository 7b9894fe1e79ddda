import PyProof.Rows.All
import Wide.All
import OpenK.AllK
import Wide.FinOn
import HandS.ForMost
import HandS.IsInst
import HandS.WideBits
import HandS.Wide
import HandS.Walk
import HandS.EndBits
import PyProof.ReprRoads
import PyProof.ReprLen
import HandS.Ends
import HandS.ForExc
import HandS.ExcInit
import HandS.ExcField
import HandS.ExcIs
import HandS.Style
import HandS.Lambda
import HandS.EndTab
import KE.KNest
import HandS.List
import PyProof.Rows.CountFlat
import HandS.ExcOwn
import HandS.ExcValue
import KE.KExcInit
import HandS.Exc
import KE.GoesNew
import HandS.Strs
import HandS.DictEq
import HandS.OwnEq
import HandS.DictComp
import HandS.Conv
import HandS.Set
import HandS.SetFor
import PySem.Challenge.RW_groupsteps_k23_whole_windows_always_rise
set_option Elab.async false
set_option maxRecDepth 100000
set_option linter.all false
/-! Calls whose surroundings hold no running repr: a promise that may use it (FnG), and repr of data. -/
namespace G
open PySem PySem.Spec PyProof.Rows L2

/-- a def keeps its promise wherever no repr is under way -/
structure FnG (P : Program) (w : World) (K : PySem.W.Frag) (mg : Str → Option Value) (bs : Heap)
    (CX : CXT) (k : Nat) (f : Addr) (fd : FuncData) (ps : List Str) (sp : Sp) : Prop where
  lenG : ∀ vs H Q E, sp vs H Q E → vs.length = ps.length
  runG : ∀ (A : Around) (ou : List Env) (st : Shared) (H : Hp) (ar : Args) (ys : List Value)
    (xs : List V) (Q : VK) (E : XK), A.guards = some [] → Room k A →
    Env0 P w K mg bs A ou st H → BindsTo st fd ar (ps.zip ys) → Vals xs ys → sp xs H Q E →
    codeAny (model P w) A (.call (.ref f) ar) (CR CX ou P w H st Q E) st

variable {P : Program} {w : World} {K : PySem.W.Frag} {mg : Str → Option Value} {bs : Heap}

theorem FnG.of {CX : CXT} {k : Nat} {f : Addr} {fd : FuncData} {ps : List Str} {sp : Sp}
    (F : FnOk P w K mg bs CX k f fd ps sp) : FnG P w K mg bs CX k f fd ps sp :=
  ⟨F.len, fun A ou st H ar ys xs Q E _ => F.run A ou st H ar ys xs Q E⟩
theorem FnG.mono {CX : CXT} {j k : Nat} {f : Addr} {fd : FuncData} {ps : List Str} {sp : Sp}
    (F : FnG P w K mg bs CX j f fd ps sp) (h : j ≤ k) : FnG P w K mg bs CX k f fd ps sp :=
  ⟨F.lenG, fun A ou st H ar ys xs Q E g r => F.runG A ou st H ar ys xs Q E g (r.mono h)⟩

/-- a def of the text, by its body, which may use that no repr is under way -/
theorem fn_ofG {CX : CXT} {k : Nat} {f : Addr} {nm ql : Str} {prm : Arguments} {bd : List Stmt}
    {sc : Scope} {dV kV dc pm cv ct oc : Value} {an od : Option Addr} {sl : Array (Option Value)}
    {N ps : List Str} {sp : Sp}
    (lk : K.lookup f = some ⟨oc, od, .func (PySem.W.fnOf nm ql prm bd sc dV kV dc pm an cv ct), sl⟩)
    (hc : PySem.W.codeIn K cv ql = true) (S : FnScope N ps sc)
    (ln : ∀ vs H Q E, sp vs H Q E → vs.length = ps.length)
    (hb : ∀ (A : Around) (ou : List Env) (st : Shared) (H : Hp) (xs : List V) (Q : VK) (E : XK),
      A.guards = some [] → Room k (A.deeper (envOfC ql sc st.heap.objs.size f cv)) → sp xs H Q E →
      ∃ t, PSs (cxOf CX P w K mg bs N ql sc f cv A ou st H E) bd t ∧
        t { nx := fun _ J => Q .non J, rt := Q } (start N xs) H) :
    FnG P w K mg bs CX (k + 1) f (PySem.W.fnOf nm ql prm bd sc dV kV dc pm an cv ct) ps sp := by
  refine ⟨ln, fun A ou st H ar ys xs Q E gd rm ev bt vl pr => ?_⟩
  have len := ln xs H Q E pr
  have old : ∀ b o, bs.get? b = some o → st.heap.get? b = some o := fun b o z => (ev.bs b o z).1
  have inK : K.In st.heap := ev.mod.kin.keeps old
  have nl : st.heap.NoLimit := ev.mod.nolimit.keeps old
  have knd : ∀ y ∈ ps.zip ys, sc.names.lookup y.1 = some .local ∨
      (sc.names.lookup y.1 = some .cell ∧
        ((cellsFrom (st.heap.objs.size + 1) sc.names []).lookup y.1).isSome = true) := by
    rintro ⟨n, v⟩ hy
    rcases S.par n (List.of_mem_zip hy).1 with z | z
    · exact .inl z
    · exact .inr ⟨z, PySem.W.cellsFrom_some _ _ _ (.inl z)⟩
  refine codeAny_call_function rm.depth (inK _ _ lk) rfl S.co S.gen rfl
    (PySem.W.codeRec_of inK hc) (bt _ _ _ _ ?_)
  refine wpAny_newFunctionEnv_cells S.kind knd fun en hen st1 ic => ?_
  subst hen
  refine ⟨nl.keeps ic.toInCall.keep, codeAny_func ?_⟩
  obtain ⟨t, pt, rd⟩ := hb A ou st H xs Q E gd (rm.deeper _) pr
  have J : Inv (cxOf CX P w K mg bs N ql sc f cv A ou st H E) [] (start N xs) H st1 :=
    inv_start S rm.hd ev len vl ic
  refine wpAny_mono (pt.run [] st1 (start N xs) H _ J rd) (fun fl st2 z => ?_) fun _ _ z => z
  cases fl with
  | ret u =>
    obtain ⟨v, σ2, H2, J2, rv, q⟩ := z
    exact ⟨v, H2, J2.os, J2.bare, J2.base, J2.hok, rv, q⟩
  | next =>
    obtain ⟨σ2, H2, J2, q⟩ := z
    exact ⟨V.non, H2, J2.os, J2.bare, J2.base, J2.hok, rfl, q⟩
  | brk =>
    obtain ⟨_, _, _, q⟩ := z
    exact q.elim
  | cont =>
    obtain ⟨_, _, _, q⟩ := z
    exact q.elim

theorem okG {x ql : Str} {st : Stmt} {f : Addr} {fd : FuncData} {N ps : List Str} {k : Nat} {sp : Sp}
    (F : Fun K x ql st f fd) (S : FnScope N ps (defScope st))
    (ln : ∀ vs H Q E, sp vs H Q E → vs.length = ps.length)
    (hb : ∀ (cv : Value) (A : Around) (ou : List Env) (s : Shared) (H : Hp) (vs : List V) (Q : VK)
      (E : XK), A.guards = some [] →
      Room k (A.deeper (envOfC ql (defScope st) s.heap.objs.size f cv)) → sp vs H Q E →
      ∃ t, PSs (cxOf CX0 P w K mg bs N ql (defScope st) f cv A ou s H E).nox (defBody st) t ∧
        t { nx := fun _ J => Q .non J, rt := Q } (start N vs) H) :
    FnG P w K mg bs CX0 (k + 1) f fd ps sp := by
  obtain ⟨oc, od, kV, doc, pm, an, cdv, ct, osl, rfl, lk, hcd⟩ := F.ex
  refine fn_ofG lk hcd S ln fun A ou s H vs Q E gd rm pr => ?_
  obtain ⟨t, p, rd⟩ := hb cdv A ou s H vs Q E gd rm pr
  exact ⟨t, p.nox, rd⟩

section
variable {X : Cx} {CX : CXT} {k : Nat} {f : Addr} {fd : FuncData} {ps : List Str} {sp : Sp}
  {dvs : List V} {ds : List Value} {E : XK} {x : Str} {p pos : Pos} {e : Expr} {es : List Expr} {t : TA}
/-- f(..) of such a def -/
theorem pe_callG (F : FnG X.prog X.w X.K X.mg X.base CX k f fd ps sp) (gd : X.A.guards = some [])
    (rm : Room k X.A) (hg : Gl X x) (hm : X.mg x = some (.ref f))
    (hk : PySem.W.keepIn X.K (.ref f) = true) (hb : Binds X.K fd ps ds) (hd : Vals dvs ds)
    (hx : Passes CX X E) (ha : PA X (e :: es) t)
    (n1 : (x == ("__debug__" : Str)) = false := by decide)
    (n2 : starEach (e :: es) X.env = (false, eval e X.env) :: starEach es X.env := by rfl)
    (n3 : (backTo pos (starEach es X.env)).any (·.1) = false := by rfl) :
    PE X (.Call (.Name x p) (e :: es) [] pos) (tCall sp dvs E t) := by
  refine ⟨fun pins s σ H Q J hw => ?_⟩
  refine wpAny_Call_Name_kw (ld_glob J hg hm ?_ n1)
  refine PySem.W.callWith_K (h₀ := X.base) J.ok.mod.kin hk (thn (ha.run pos pins s σ H _ J hw)
    fun ys s1 ⟨xs, H1, J1, r1, q1⟩ => ⟨J1.kIn, ?_⟩) n2 n3
  have r2 : Vals (xs ++ dvs) (ys ++ ds) := r1.append hd
  have hl : (ys ++ ds).length = ps.length := by
    rw [← r2.length]
    exact F.lenG _ _ _ _ q1
  refine wpAny_call (codeAny_mono (F.runG X.A X.stack s1 H1 ⟨ys, []⟩ (ys ++ ds) (xs ++ dvs) Q E
    gd rm J1.env0 (hb s1 ys J1.kIn hl) r2 q1) fun r s2 z => ?_)
  cases r with
  | error er => exact hx pins σ H1 s1 er s2 J1 z
  | ok fl =>
    cases fl with
    | ret u => exact J1.after z
    | next => exact z.elim
    | brk => exact z.elim
    | cont => exact z.elim
end

section
variable {X : Cx}
/-- what repr gives of a value: its data, and whether it can be shown -/
def rRepr (K : PySem.W.Frag) : List V → Hp → VK → Prop := fun xs H Q =>
  ∃ (v : V) (d : PyData), xs = [v] ∧ Dp K H v d ∧ d.showable = true ∧ d.hasDict = false ∧
    d.depth ≤ 60 ∧ d.shown.length ≤ sizeLine ∧ Q (.str d.shown) H
theorem call_reprD (gd : X.A.guards = some []) (hu : X.A.units + 64 < cLine) :
    CallR X (.builtin "repr") (rRepr X.K) := by
  intro pins s σ H xs us Q I r h
  obtain ⟨v, d, rfl, hd, hs, hn, hp, hz, q⟩ := h
  obtain ⟨u, rfl, rv⟩ := vals1 r
  obtain ⟨as, R⟩ := Dp.reads I d v u hd rv
  cases R with
  | none => exact PySem.P.repr_of_none ⟨.str _, H, I.tok _, ⟨_, rfl⟩, q⟩
  | bool b => exact PySem.P.repr_of_bool ⟨.str _, H, I.tok _, ⟨_, rfl⟩, q⟩
  | int i t =>
    have hi : i.natAbs.log2 < 1920 := by simpa [PyData.showable] using hs
    exact PySem.P.repr_of_int hi ⟨.str _, H, I.tok _, ⟨_, rfl⟩, q⟩
  | str y t => exact PySem.P.repr_of_str ⟨.str _, H, I.tok _, ⟨_, rfl⟩, q⟩ hz
  | list h1 h2 h3 h4 =>
    exact repr_of_reads' (.list h1 h2 h3 h4) hs (PyData.noDict_hsm hn) gd (by omega)
      (fun _ _ e => e) (fun h' u tk k => ⟨.str _, H, I.kept k, ⟨_, rfl⟩, q⟩) hz
  | tuple h1 h2 h3 h4 =>
    exact repr_of_reads' (.tuple h1 h2 h3 h4) hs (PyData.noDict_hsm hn) gd (by omega)
      (fun _ _ e => e) (fun h' u tk k => ⟨.str _, H, I.kept k, ⟨_, rfl⟩, q⟩) hz
  | dict h1 h2 h3 h4 h5 => simp [PyData.hasDict] at hn
end
end G
/-! Data in the heap: none, bools, ints, texts, lists, tuples, dicts; their repr. -/
namespace G
open PySem PySem.Spec PyProof.Rows L2

def kD : Key → PyData
  | .inl i => .int i
  | .inr x => .str x
mutual
inductive Da (H : Hp) : V → PyData → Prop
  | non : Da H .non .none
  | bl (b : Bool) : Da H (.bl b) (.bool b)
  | int (i : Int) : Da H (.int i) (.int i)
  | str (x : Str) : Da H (.str x) (.str x)
  | lst {a : Addr} {xs : List V} {ds : List PyData} : a ≠ sysModules → H a = some (.lst xs) →
      DaAll H xs ds → Da H (.ref a) (.list ds)
  | tup {a : Addr} {xs : List V} {ds : List PyData} : H a = some (.tup xs) →
      DaAll H xs ds → Da H (.ref a) (.tuple ds)
  | dic {a : Addr} {kvs : List (Key × V)} {ds : List PyData} : H a = some (.dK kvs) →
      DaAll H (kvs.map (·.2)) ds → Da H (.ref a) (.dict ((kvs.map fun p => kD p.1).zip ds))
inductive DaAll (H : Hp) : List V → List PyData → Prop
  | nil : DaAll H [] []
  | cons {v : V} {vs : List V} {d : PyData} {ds : List PyData} : Da H v d → DaAll H vs ds →
      DaAll H (v :: vs) (d :: ds)
end
mutual
theorem Da.mono {H H' : Hp} (e : Same H H') {v : V} {d : PyData} : Da H v d → Da H' v d
  | .non => .non
  | .bl b => .bl b
  | .int i => .int i
  | .str x => .str x
  | .lst n h t => .lst n (e _ _ h) (DaAll.mono e t)
  | .tup h t => .tup (e _ _ h) (DaAll.mono e t)
  | .dic h t => .dic (e _ _ h) (DaAll.mono e t)
theorem DaAll.mono {H H' : Hp} (e : Same H H') {vs : List V} {ds : List PyData} :
    DaAll H vs ds → DaAll H' vs ds
  | .nil => .nil
  | .cons h t => .cons (Da.mono e h) (DaAll.mono e t)
end
theorem DaAll.len {H : Hp} : ∀ {vs : List V} {ds : List PyData}, DaAll H vs ds → vs.length = ds.length
  | _, _, .nil => rfl
  | _, _, .cons _ t => by simp [DaAll.len t]

theorem pairs_reads {P : Program} {w : World} {h : Heap} : ∀ {es : List DictEntry} {kvs : List (Key × V)}
    {vs : List (Key × Value)}, Pairs (mixKind P w) es vs → KV kvs vs →
    ReadsAll h (es.map (·.key)) (kvs.map fun p => kD p.1) [] ∧ Vals (kvs.map (·.2)) (es.map (·.val))
  | _, _, _, .nil, r => by cases r; exact ⟨.nil, .nil⟩
  | _, _, _, .cons (e := e) k1 k2 t, r => by
    cases r with
    | cons r1 r2 =>
      obtain ⟨q1, q2⟩ := pairs_reads (h := h) t r2
      obtain ⟨e1, e2⟩ := r1
      refine ⟨?_, .cons (show L2.RelV _ e.val by rw [k2]; exact e2) q2⟩
      rw [← e1] at k1
      have sh := keyIs_shape (show keyIs _ e.key = true from k1)
      simp only [List.map_cons]
      rcases sh with ⟨i, tk, z1, z2⟩ | ⟨x, tk, z1, z2⟩
      · rw [z1, z2]
        exact ReadsAll.cons (as := []) (bs := []) (.int i tk) q1
      · rw [z1, z2]
        exact ReadsAll.cons (as := []) (bs := []) (.str x tk) q1

section
variable {X : Cx} {pins : List (Addr × Obj)} {σ : L2.St} {H : Hp} {s : Shared}
mutual
theorem Da.reads (I : Inv X pins σ H s) {v : V} {d : PyData} {u : Value} :
    Da H v d → RelV v u → ∃ as, Reads s.heap u d as ∧ sysModules ∉ as
  | .non, r => by
    obtain rfl : u = Value.none := r
    exact ⟨_, .none, by simp⟩
  | .bl b, r => by
    obtain rfl : u = Value.bool b := r
    exact ⟨_, .bool b, by simp⟩
  | .int i, r => by
    obtain ⟨t, rfl⟩ := r
    exact ⟨_, .int i t, by simp⟩
  | .str x, r => by
    obtain ⟨t, rfl⟩ := r
    exact ⟨_, .str x t, by simp⟩
  | .lst (a := a) (xs := xs) n h t, r => by
    obtain rfl : u = Value.ref a := r
    obtain ⟨_, its, m, rv, ho⟩ := (show ObjOk X.prog X.w H s.heap a (.lst xs) from I.hok a _ h)
    obtain ⟨as, q, z⟩ := DaAll.reads I t rv
    refine ⟨_, .list (vs := its.toArray) ho rfl rfl (by simpa using q), ?_⟩
    intro hm
    rcases List.mem_cons.mp hm with e | e
    · exact n e.symm
    · exact z e
  | .tup (a := a) (xs := xs) h t, r => by
    obtain rfl : u = Value.ref a := r
    obtain ⟨_, its, rv, o, ho, hc, m, hd⟩ := (show ObjOk X.prog X.w H s.heap a (.tup xs) from I.hok a _ h)
    obtain ⟨as, q, z⟩ := DaAll.reads I t rv
    exact ⟨_, .tuple (vs := its.toArray) ho hc hd (by simpa using q), z⟩
  | .dic (a := a) (kvs := kvs) (ds := ds) h t, r => by
    obtain rfl : u = Value.ref a := r
    obtain ⟨_, ns, vs, kv, o, es, ep, ho, ex, hd, _, pr, _⟩ :=
      (show ObjOk X.prog X.w H s.heap a (.dK kvs) from I.hok a _ h)
    obtain ⟨q1, q2⟩ := pairs_reads (h := s.heap) pr kv
    obtain ⟨as, q3, z⟩ := DaAll.reads I t q2
    have hl := t.len
    have hl2 : (kvs.map fun p => kD p.1).length = ds.length := by simpa using hl
    have e1 : ((kvs.map fun p => kD p.1).zip ds).map (·.1) = kvs.map fun p => kD p.1 :=
      List.map_fst_zip (by omega)
    have e2 : ((kvs.map fun p => kD p.1).zip ds).map (·.2) = ds := List.map_snd_zip (by omega)
    refine ⟨_, .dict ho ex.1 hd (by rw [e1]; exact q1) (by rw [e2]; exact q3), ?_⟩
    intro hm
    rcases List.mem_cons.mp (show sysModules ∈ a :: ([] ++ as) by simpa using hm) with e | e
    · rw [← e] at ns
      simp at ns
    · exact z (by simpa using e)
theorem DaAll.reads (I : Inv X pins σ H s) {vs : List V} {ds : List PyData} {us : List Value} :
    DaAll H vs ds → Vals vs us → ∃ as, ReadsAll s.heap us ds as ∧ sysModules ∉ as
  | .nil, r => by
    cases r
    exact ⟨_, .nil, by simp⟩
  | .cons h t, r => by
    cases r with
    | cons r1 r2 =>
      obtain ⟨as, q1, z1⟩ := Da.reads I h r1
      obtain ⟨bs, q2, z2⟩ := DaAll.reads I t r2
      exact ⟨_, .cons q1 q2, by simp [z1, z2]⟩
end
end

/-- data that can be shown, and not too long -/
def OkD (d : PyData) : Prop :=
  d.showable = true ∧ d.leavesShort 600 = true ∧ d.weight ≤ 20000 ∧ d.depth ≤ 60
theorem OkD.size {d : PyData} (h : OkD d) : d.shown.length ≤ sizeLine := by
  have q := PyData.shown_le 600 (by decide) d h.2.1
  have e := h.2.2.1
  have e2 : (600 + 2) * d.weight ≤ 602 * 20000 := Nat.mul_le_mul (by decide) e
  rw [sizeLine_eq]
  omega

section
variable {X : Cx}
def rRep : List V → Hp → VK → Prop := fun xs H Q =>
  ∃ (v : V) (d : PyData), xs = [v] ∧ Da H v d ∧ OkD d ∧ Q (.str d.shown) H
theorem call_rep (gd : X.A.guards = some []) (hu : X.A.units + 64 < cLine) :
    CallR X (.builtin "repr") rRep := by
  intro pins s σ H xs us Q I r h
  obtain ⟨v, d, rfl, hd, ok, q⟩ := h
  obtain ⟨u, rfl, rv⟩ := vals1 r
  obtain ⟨as, R, nm⟩ := hd.reads I rv
  have hz := ok.size
  have hp := ok.2.2.2
  have hs := ok.1
  cases R with
  | none => exact PySem.P.repr_of_none ⟨.str _, H, I.tok _, ⟨_, rfl⟩, q⟩
  | bool b => exact PySem.P.repr_of_bool ⟨.str _, H, I.tok _, ⟨_, rfl⟩, q⟩
  | int i t =>
    have hi : i.natAbs.log2 < 1920 := by simpa [PyData.showable] using hs
    exact PySem.P.repr_of_int hi ⟨.str _, H, I.tok _, ⟨_, rfl⟩, q⟩
  | str y t => exact PySem.P.repr_of_str ⟨.str _, H, I.tok _, ⟨_, rfl⟩, q⟩ hz
  | list h1 h2 h3 h4 =>
    exact repr_of_reads' (.list h1 h2 h3 h4) hs (fun _ => nm) gd (by omega)
      (fun _ _ e => e) (fun h' u tk k => ⟨.str _, H, I.kept k, ⟨_, rfl⟩, q⟩) hz
  | tuple h1 h2 h3 h4 =>
    exact repr_of_reads' (.tuple h1 h2 h3 h4) hs (fun _ => nm) gd (by omega)
      (fun _ _ e => e) (fun h' u tk k => ⟨.str _, H, I.kept k, ⟨_, rfl⟩, q⟩) hz
  | dict h1 h2 h3 h4 h5 =>
    exact repr_of_reads' (.dict h1 h2 h3 h4 h5) hs (fun _ => nm) gd (by omega)
      (fun _ _ e => e) (fun h' u tk k => ⟨.str _, H, I.kept k, ⟨_, rfl⟩, q⟩) hz

/-- a list display, its place not that of sys.modules -/
def tLstS (t : TA) : TE := fun σ H Q => t σ H fun xs H1 => xs.length ≤ sizeLine ∧
  ∀ p, H1 p = none → p ≠ sysModules → Q (.ref p) (upd H1 p (.lst xs))
theorem pe_lstS {es : List Expr} {t : TA} {pos : Pos} (h : PA X es t) : PE X (.List es pos) (tLstS t) := by
  refine ⟨fun pins s σ H Q I hq => ?_⟩
  refine wpAny_List_spliced (thn (h.run pos pins s σ H _ I hq) fun us s1 ⟨xs, H1, I1, r, z, q⟩ =>
    ⟨by rw [← r.length]; exact z, ?_⟩)
  have fr : H1 s1.heap.objs.size = none := I1.hok.fresh (Nat.le_refl _)
  refine ⟨.ref s1.heap.objs.size, upd H1 s1.heap.objs.size (.lst xs), I1.laid (t' := s1.toks)
    (fun b u e => Heap.get?_push_of_some _ e) (Nat.le_refl _) ?_, rfl, q _ fr (Nat.ne_of_gt I1.big)⟩
  exact ⟨z, us, 0, r, Heap.get?_push_size _ rfl⟩

/-- isinstance(x, T) for data and a built-in T -/
def tyD : PyData → String
  | .none => "NoneType"
  | .bool _ => "bool"
  | .int _ => "int"
  | .str _ => "str"
  | .list _ => "list"
  | .tuple _ => "tuple"
  | .dict _ => "dict"
theorem Da.ty {K : PySem.W.Frag} {H : Hp} {v : V} {d : PyData} (h : Da H v d) :
    TyX K H v (.type (tyD d)) := by
  cases h with
  | non => exact .base .non
  | bl b => exact .base (.bl b)
  | int i => exact .base (.int i)
  | str x => exact .base (.str x)
  | lst n h t => exact .base (.lst h)
  | tup h t => exact .base (.tup h)
  | dic h t => exact .base (.dK h)
end

/-- the heap without what stands at r -/
def hide (r : Addr) (H : Hp) : Hp := fun q => if q = r then none else H q
theorem hide_same (r : Addr) (H : Hp) : Same (hide r H) H := fun b o e => by
  unfold hide at e
  split at e
  · cases e
  · exact e
theorem hide_get {r b : Addr} {H : Hp} {o : HO} (n : b ≠ r) (h : H b = some o) : hide r H b = some o := by
  unfold hide
  rw [if_neg n]
  exact h
end G
/-! The end of a row from a law's promise that may use that no repr is under way. -/
namespace G
open PySem PySem.Spec PyProof.Rows L2

theorem law_callG {P : Program} {w : World} {K : PySem.W.Frag} {mg mb : Str → Option Value} {k : Nat}
    {f a : Addr} {fd : FuncData} {x : Str} {sp : Sp} {st : Shared} {us : List Value} {ns : List Int}
    (inK : K.In st.heap) (hg : st.heap.Ns mainGlobals mg) (hb : st.heap.Ns builtinsNs mb)
    (bb : ∀ y : Str, y ≠ "__name__" → mb y = bootBuiltins y) (nl : st.heap.NoLimit)
    (gn : st.gens = #[])
    (ho : st.heap.get? a = some { cls := .type "list", data := .seq us.toArray }) (hi : IntsAre us ns)
    (hl : ns.length ≤ sizeLine) (rm : Room k callerA)
    (F : ∀ bs : Heap, K.In bs → bs.Ns mainGlobals mg → FnG P w K mg bs CX0 k f fd [x] sp)
    (bind : ∀ (s : Shared) (u : Value), BindsTo s fd ⟨[u], []⟩ [(x, u)])
    (hsp : ∀ H : Hp, Only H → SqL K H a (ns.map V.int) →
      sp [.ref a] H (fun v _ => v = .bl true) fun _ _ _ => False) :
    codeAny (model P w) callerA (.call (.ref f) ⟨[.ref a], []⟩)
      (fun r s' => r = .ok (.ret (.bool true)) ∧ OldK st.heap s'.heap ∧ s'.os = st.os ∧
        AllBare s'.gens) st := by
  have vls := vals_ints hi
  have len := hi.length
  have main : ∀ H : Hp, Only H → SqL K H a (ns.map V.int) → HOk P w H st.heap →
      (∀ b, H b ≠ none → b = a) → (H a ≠ none → K.lookup a = none) →
      codeAny (model P w) callerA (.call (.ref f) ⟨[.ref a], []⟩)
        (fun r s' => r = .ok (.ret (.bool true)) ∧ OldK st.heap s'.heap ∧ s'.os = st.os ∧
          AllBare s'.gens) st := by
    intro H only sq hok at_a noK
    have dict_free : ∀ {b : Addr} {o : Obj} {es : Array DictEntry} {ep : Nat},
        st.heap.get? b = some o → o.data = .dict es ep → H b = none := by
      intro b o es ep e d
      cases q : H b with
      | none => rfl
      | some z =>
        have e2 : b = a := at_a b (by rw [q]; simp)
        rw [e2, ho] at e
        cases e
        cases (show Data.seq us.toArray _ = Data.dict es ep from d)
    have keepN : ∀ {b : Addr} {m : Str → Option Value}, st.heap.Ns b m →
        (hidT st.heap H).Ns b m := by
      rintro b m ⟨o, es, ep, e, d, r⟩
      exact ⟨o, es, ep, hidT_get e (dict_free e d), d, r⟩
    have inB : K.In (hidT st.heap H) := by
      intro b o e
      refine hidT_get (inK b o e) ?_
      cases q : H b with
      | none => rfl
      | some z =>
        have e2 : b = a := at_a b (by rw [q]; simp)
        subst e2
        rw [noK (by rw [q]; simp)] at e
        cases e
    obtain ⟨mc, n1, n2⟩ := nl
    have md : Mod K mg (hidT st.heap H) := ⟨inB, keepN hg, ⟨mb, keepN hb, bb⟩, mc, keepN n1, n2⟩
    have ev : Env0 P w K mg (hidT st.heap H) callerA [] st H :=
      ⟨rfl, md, fun b o e => of_hidT e, Nat.le_of_eq (hidT_size _ _), trivial,
        fun b z => (by simp [frs] at z), hok, .of_eq gn⟩
    refine codeAny_mono ((F _ inB (keepN hg)).runG callerA [] st H ⟨[.ref a], []⟩ [.ref a] [.ref a]
      _ _ rfl rm ev (bind st (.ref a)) (.cons rfl .nil) (hsp H only sq)) fun r s2 z => ?_
    cases r with
    | error e => exact z.elim
    | ok fl =>
      cases fl with
      | next => exact z.elim
      | brk => exact z.elim
      | cont => exact z.elim
      | ret u =>
        obtain ⟨v, H2, os, bare, un, hok2, rv, q⟩ := z
        have qv : v = .bl true := q
        subst qv
        obtain rfl : u = Value.bool true := rv
        refine ⟨rfl, OldK.of_keep fun b o e => ?_, os, bare⟩
        cases q2 : H b with
        | none => exact un.keep b o e q2 (fun z => by simp [frs] at z) (by simp)
        | some z =>
          rcases only b with y | ⟨ob, xs, y⟩
          · rw [q2] at y
            cases y
          · obtain ⟨m1, _⟩ := hok b _ y
            obtain ⟨m2, _⟩ := hok2 b _ (un.frzs b ob _ y)
            rw [e] at m1
            cases m1
            exact m2
  cases hk : K.lookup a with
  | some o =>
    have e := inK a o hk
    rw [ho] at e
    cases e
    refine main (fun _ => none) (fun _ => .inl rfl) (.inr ⟨_, us.toArray, _, hk, rfl, rfl, rfl, ?_, ?_⟩)
      (fun b u z => nomatch (show (none : Option HO) = some u from z)) (fun b z => absurd rfl z)
      fun z => absurd rfl z
    · rw [List.size_toArray, len]
      exact hl
    · simpa using vls
  | none =>
    refine main (fun b => if b = a then some (.frz { cls := .type "list", data := .seq us.toArray }
      (.lst (ns.map V.int))) else none) (fun b => ?_) (.inl (.inr ⟨_, if_pos rfl⟩)) (fun b u z => ?_)
      (fun b z => ?_) fun _ => hk
    · by_cases e : b = a
      · exact .inr ⟨_, _, if_pos e⟩
      · exact .inl (if_neg e)
    · by_cases e : b = a
      · have z2 := (if_pos e).symm.trans z
        cases z2
        subst e
        exact ⟨ho, by rw [List.length_map]; exact hl, us, _, vls, ho⟩
      · have z2 := (if_neg e).symm.trans z
        cases z2
    · by_cases e : b = a
      · exact e
      · exact absurd (if_neg e) z

/-- the goal that the head leaves -/
theorem walk_ofG {l : PySem.W.OpenLaw} {n k : Nat} {q : Program} {loose : List Str}
    {XP : (Str → Option Value) → Heap → Prop} {YP : World → Heap → Prop} {d : DefRec}
    {K : Params → PySem.W.Frag} {sp : World → Sp} {x : Str} (hn : l.most = some n) (n2 : n ≤ sizeLine)
    (hd : d.params.defaults = []) (rm : Room k callerA)
    (hY : ∀ (w : World) (h : Heap), YP w h → (K w.params).In h)
    (F : ∀ (w : World) (mg : Str → Option Value) (fa : Addr) (h : Heap), (K w.params).In h →
      h.Ns mainGlobals mg → mg d.name = some (.ref fa) →
      ∃ fd : FuncData, (∀ (s : Shared) (u : Value), BindsTo s fd ⟨[u], []⟩ [(x, u)]) ∧
        ∀ bs : Heap, (K w.params).In bs → bs.Ns mainGlobals mg →
          FnG l.prog w (K w.params) mg bs CX0 k fa fd [x] (sp w))
    (hsp : ∀ (w : World) (H : Hp) (a : Addr) (ns : List Int), ns.length ≤ n → Only H →
      SqL (K w.params) H a (ns.map V.int) →
      sp w [.ref a] H (fun v _ => v = .bl true) fun _ _ _ => False) :
    PySem.W.WalkO q loose XP YP l.row.toRowW d [] (fun f vs => PySem.call f vs) := by
  refine Att.attach_call hn hd
    fun w s0 s1 mg mb fa o pm cd doc a us ns Gr Y _ _ _ hmg hobj hints hlen gn => ?_
  have inK := hY w _ Y
  obtain ⟨fd, hb, hF⟩ := F w mg fa _ inK Gr.T.g hmg
  exact law_callG inK Gr.T.g Gr.T.b Gr.T.builtins Gr.T.nolimit gn hobj hints
    (Nat.le_trans hlen n2) rm hF hb fun H hO hS => hsp w H a ns hlen hO hS
end G
/-! What the laws' texts have in common: the drawn numbers, heaps that grow, data that can be shown. -/
namespace G
open PySem PySem.Spec PyProof.Rows L2

def Rng (H : Hp) (r : Addr) : Prop :=
  ∃ a b : Int, H r = some (.lst [.int a, .int b]) ∧ 0 ≤ a ∧ 0 ≤ b ∧ b < 2147483587
/-- all but what stands at r is kept -/
def Ext (r : Addr) (H H' : Hp) : Prop := ∀ q o, q ≠ r → H q = some o → H' q = some o
theorem Ext.refl (r : Addr) (H : Hp) : Ext r H H := fun _ _ _ h => h
theorem Ext.trans {r : Addr} {H H1 H2 : Hp} (a : Ext r H H1) (b : Ext r H1 H2) : Ext r H H2 :=
  fun q o n h => b q o n (a q o n h)
theorem Ext.new {r p : Addr} {H : Hp} {o : HO} (h : H p = Option.none) : Ext r H (upd H p o) :=
  fun q u _ e => by rw [upd_ne (ne_of_none e h)]; exact e
theorem Ext.at {r : Addr} {H : Hp} {o : HO} : Ext r H (upd H r o) :=
  fun q u n e => by rw [upd_ne n]; exact e
theorem Ext.of {r : Addr} {H H' : Hp} (h : Same H H') : Ext r H H' := fun q o _ e => h q o e
theorem Ext.none {r p : Addr} {H H' : Hp} (e : Ext r H H') (n : p ≠ r) (h : H' p = Option.none) : H p = Option.none := by
  cases z : H p with
  | none => rfl
  | some o =>
    rw [e p o n z] at h
    cases h
theorem Rng.same {r : Addr} {H H' : Hp} (R : Rng H r) (s : Same H H') : Rng H' r := by
  obtain ⟨a, b, e, z⟩ := R
  exact ⟨a, b, s _ _ e, z⟩
theorem Rng.new {r p : Addr} {H : Hp} {o : HO} (R : Rng H r) (h : H p = Option.none) : Rng (upd H p o) r := by
  obtain ⟨a, b, e, z⟩ := R
  exact ⟨a, b, by rw [upd_ne (ne_of_none e h)]; exact e, z⟩
theorem Rng.put {r p : Addr} {H : Hp} {o : HO} (R : Rng H r) (h : p ≠ r) : Rng (upd H p o) r := by
  obtain ⟨a, b, e, z⟩ := R
  exact ⟨a, b, by rw [upd_ne h.symm]; exact e, z⟩
theorem Rng.free {r p : Addr} {H : Hp} (R : Rng H r) (h : H p = Option.none) : r ≠ p := by
  obtain ⟨a, b, e, z⟩ := R
  exact ne_of_none e h
theorem Rng.ne {r p : Addr} {H : Hp} {o : HO} (R : Rng H r) (h : H p = some o) (n : ∀ a b, o ≠ .lst [.int a, .int b]) : p ≠ r := by
  obtain ⟨a, b, e, z⟩ := R
  exact ne_of h e (n a b)
theorem new_same {p : Addr} {J : Hp} {o : HO} (h : J p = none) : Same J (upd J p o) :=
  fun b u e => by rw [upd_ne (ne_of_none e h)]; exact e

def spRng (K : PySem.W.Frag) : Sp := fun vs H Q _ => ∃ (a : Addr) (ns : List Int) (k : Int),
  vs = [.ref a, .int k] ∧ SqL K H a (ns.map V.int) ∧ 0 ≤ k ∧ k ≤ 1000 ∧
  ∀ r H', H r = none → Same H H' → Rng H' r → Q (.ref r) H'
def spDraw : Sp := fun vs H Q _ => ∃ (r : Addr) (m : Int), vs = [.ref r, .int m] ∧ Rng H r ∧ 0 < m ∧
  m.natAbs < 2 ^ 250 ∧ ∀ (d : Int) (H' : Hp), Ext r H H' → Rng H' r → 0 ≤ d → d < m → Q (.int d) H'
def spChoice (K : PySem.W.Frag) : Sp := fun vs H Q _ => ∃ (r l : Addr) (xs : List V),
  vs = [.ref r, .ref l] ∧ Rng H r ∧ SqL K H l xs ∧ l ≠ r ∧ 0 < xs.length ∧ xs.length ≤ 1000 ∧
  ∀ (v : V) (H' : Hp), Ext r H H' → Rng H' r → v ∈ xs → Q v H'
theorem Ext.sqL {K : PySem.W.Frag} {r a : Addr} {H H' : Hp} {xs : List V} (e : Ext r H H') (n : a ≠ r)
    (h : SqL K H a xs) : SqL K H' a xs := by
  rcases h with (h | ⟨o, h⟩) | h
  · exact .inl (.inl (e _ _ n h))
  · exact .inl (.inr ⟨o, e _ _ n h⟩)
  · exact .inr h
theorem sq_ext {K : PySem.W.Frag} {r a : Addr} {J0 J : Hp} {xs : List V} (h : SqL K J0 a xs) (n : J0 r = none)
    (e : Ext r J0 J) : SqL K J a xs := by
  rcases h with (h | ⟨o, h⟩) | h
  · exact .inl (.inl (e _ _ (ne_of_none h n) h))
  · exact .inl (.inr ⟨o, e _ _ (ne_of_none h n) h⟩)
  · exact .inr h
theorem at_in {α : Type} {xs : List α} {i : Int} {v : α} (h0 : 0 ≤ i)
    (h : xs[i.toNat]? = some v) : atI xs i = some v := by
  have e : i = ((i.toNat : Nat) : Int) := by omega
  rw [e]
  exact atI_nat h
theorem at_mem {α : Type} {xs : List α} {i : Int} (h0 : 0 ≤ i) (h1 : i < xs.length) :
    ∃ c, atI xs i = some c ∧ c ∈ xs := by
  have h2 : i.toNat < xs.length := by omega
  exact ⟨xs[i.toNat], at_in h0 (by simp [h2]), List.getElem_mem _⟩
theorem yesT {σ : L2.St} {H : Hp} {a b : Hp → Prop} (h : a H) :
    tYes σ H fun k J => if k = true then a J else b J := by
  show if true = true then a H else b H
  exact iteT h
theorem take_next {α : Type} {l : List α} {i : Nat} {c : α} (h : l[i]? = some c) :
    l.take (i + 1) = l.take i ++ [c] := by
  rw [List.take_add_one, h]
  rfl
def okB (d : PyData) : Bool :=
  d.showable && d.leavesShort 600 && decide (d.weight ≤ 20000) && decide (d.depth ≤ 60)
theorem okd {d : PyData} (h : okB d = true) : OkD d := by
  simp only [okB, Bool.and_eq_true, decide_eq_true_eq] at h
  exact ⟨h.1.1.1, h.1.1.2, h.1.2, h.2⟩

section
variable {X : Cx} {CX : CXT} {k : Nat} {f : Addr} {fd : FuncData} {ps ks : List Str} {sp : Sp} {E : XK}
  {x : Str} {p pos : Pos} {kws : List Keyword} {tk : TA}
/-- f(k = v, ..), keywords alone: o puts their values in the parameters' order -/
theorem pe_callKw {m : Nat} (oV : List V → List V) (o : List Value → List Value)
    (F : FnOk X.prog X.w X.K X.mg X.base CX k f fd ps sp) (rm : Room k X.A)
    (hg : Gl X x) (hm : X.mg x = some (.ref f)) (hk : PySem.W.keepIn X.K (.ref f) = true)
    (bt : ∀ (s : Shared) (ws : List Value), ws.length = m → BindsTo s fd ⟨[], ks.zip ws⟩ (ps.zip (o ws)))
    (rel : ∀ (zs : List V) (ws : List Value), zs.length = m → Vals zs ws → Vals (oV zs) (o ws)) (hx : Passes CX X E)
    (hkw : PK X kws tk)
    (a1 : (backToKw pos (keywordEach kws X.env)).all (·.1.isSome) = true := by rfl)
    (a2 : (backToKw pos (keywordEach kws X.env)).filterMap (·.1) = ks := by rfl)
    (n1 : (x == ("__debug__" : Str)) = false := by decide)
    (n3 : ((backTo pos (starEach [] X.env)).any (·.1) || (backToKw pos (keywordEach kws X.env)).any (·.1.isNone)) = false := by rfl) :
    PE X (.Call (.Name x p) [] kws pos) (fun σ H Q => tk σ H fun zs H1 => zs.length = m ∧ sp (oV zs) H1 Q E) := by
  refine ⟨fun pins s σ H Q J hw => ?_⟩
  refine wpAny_Call_Name_kw (ld_glob J hg hm ?_ n1)
  refine PySem.W.callWith_KW0 (h₀ := X.base) J.ok.mod.kin hk a1 (thn (hkw.run pos pins s σ H _ J hw)
    fun ws s1 ⟨zs, H1, J1, r1, l1, q1⟩ => ⟨J1.kIn, ?_⟩) n3
  rw [a2]
  have r2 := rel zs ws l1 r1
  refine wpAny_call (codeAny_mono (F.run X.A X.stack s1 H1 ⟨[], ks.zip ws⟩ (o ws) (oV zs) Q E
    rm J1.env0 (bt s1 ws (by rw [← r1.length]; exact l1)) r2 q1) fun r s2 z => ?_)
  cases r with
  | error er => exact hx pins σ H1 s1 er s2 J1 z
  | ok fl =>
    cases fl with
    | ret u => exact J1.after z
    | next => exact z.elim
    | brk => exact z.elim
    | cont => exact z.elim
end
end G
set_option maxHeartbeats 2000000
/-! Errors of the program's own that have fields: made, raised, caught, asked for their class. -/
namespace G
open PySem PySem.Spec PyProof.Rows PySem.Calls PySem.W L2

theorem findObj_dat {K : Frag} {C : Addr} {od : Option Obj} {nm : Str} {a g : Value} (h0 : (clsIn K C).isSome = true)
    (h1 : findIn K (.ref C) nm = some (some a)) (h2 : specialIn K a "__get__" = some (some g))
    (h3 : takesIn K a = some true) : findObj K C od nm = some (.bind g a) := by
  obtain ⟨cd, hc⟩ := Option.isSome_iff_exists.mp h0
  simp [findObj, hc, h1, h2, h3]

section
variable {prog : Program} {w : World} {A : Around} {E : Value → Shared → Prop} {s : Shared} {K : Frag} {x D : Addr} {ox : Obj} {od : Option Obj}
/-- the class of an error that has its fields -/
theorem cls_exc {Q : Option Value → Shared → Prop} (C : ExcC K D) (inK : K.In s.heap) (I : InstAt s.heap x ox D od)
    (h : Q (some (.ref D)) { s with toks := s.toks + 1 }) : wpAny (model prog w) A (getAttr? (.ref x) "__class__") Q E s := by
  have cs : (clsIn K D).isSome = true := by obtain ⟨cd, hc, _⟩ := any_some C.hd; rw [hc]; rfl
  have found : findObj K D od "__class__" = some (.bind (.builtin "getset_descriptor.__get__") (.builtin "object.__class__")) :=
    findObj_dat cs C.ha C.hn C.ht
  obtain ⟨hp, g, d, t, os⟩ := s
  have ty := I.type (M := model prog w)
  have l1 := looks_findIn (M := model prog w) inK C.hg
  have l2 := looks_findIn (M := model prog w) inK C.hk
  have l3 := looks_find (M := model prog w) inK I found
  have sb : Looks (model prog w) hp (isInstance (.ref x) (.type "BaseException")) true := ty.andThen (looks_subIn inK C.hs)
  have n0 : (false && onTheHeap (Value.builtin "BaseException.__getattribute__")) = false := rfl
  have n2 : (Value.builtin "BaseException.__getattribute__" == Value.builtin "object.__getattribute__") = false := by decide +kernel
  have n1 : (onTheHeap (Value.ref D) && Value.builtin "BaseException.__getattribute__" == Value.builtin "object.__getattribute__") = false := by
    rw [n2]; rfl
  unfold getAttr? getAttrBy? getAttrBy
  refine wpAny_bind (wpAny_mkText (wpAny_bind (wpAny_attempt (wpAny_holding (wpAny_bind (ty.at (wpAny_bind (l1.at ?_))))))))
  show wpAny _ _ (if (onTheHeap (Value.ref D) &&
    Value.builtin "BaseException.__getattribute__" == Value.builtin "object.__getattribute__") = true then _ else _) _ _ _
  rw [n1, if_neg Bool.false_ne_true]
  unfold getAttrByItsOwn hookBefore
  refine wpAny_bind ?_
  rw [if_pos (show onTheHeap (Value.ref D) = true from rfl)]
  refine l2.at (wpAny_bind (wpAny_attempt (wpAny_holding ?_)))
  unfold callGetattribute
  rw [n0, if_neg Bool.false_ne_true]
  unfold boundAndCalled
  rw [PySem.F.excAttr_ValueError.ga.bind (.ref x)]
  refine wpAny_bind (wpAny_pure ?_)
  show wpAny _ _ (call (.builtin "BaseException.__getattribute__")
    [.ref x, .str "__class__" t]) _ _ _
  refine wpAny_call (codeAny_call_builtin PySem.F.excAttr_ValueError.ga.plain
    PySem.F.entry_bexc_ga ?_)
  refine @check_slot (model prog w) _ _ ⟨hp, g, d, t + 1, os⟩ "BaseException.__getattribute__" "BaseException"
    "__getattribute__" (.ref x) [.str "__class__" t] [] _ (by decide +kernel) (by decide +kernel) sb
    (PySem.F.args_bexc_ga (.ref x) (.str "__class__" t)) ?_
  unfold Builtin.«object.__getattribute__»
  refine wpAny_bind (wpAny_of_eq (a := ((Value.ref x : Value), [Value.str "__class__" t]))
    (by first | rfl | (simp only [slotArgs]; rfl)) ?_)
  refine wpAny_bind (wpAny_pure (wpAny_bind (ty.at (wpAny_bind (l3.at ?_)))))
  show wpAny _ _ (holding [Value.builtin "object.__class__"] (call (.builtin "getset_descriptor.__get__")
    [.builtin "object.__class__", .ref x, .ref D]) >>= ret) _ _ _
  refine wpAny_bind (wpAny_holding (wpAny_call (class_get (s := ⟨hp, g, d, t + 1, os⟩) (ox := ox)
    (od := od) inK I C.hm ?_)))
  refine wpAny_pure ?_
  show wpAny _ _ (handedOut (.ref D)) _ _ _
  rw [handedOut_of (v := .ref D) rfl]
  first
    | exact wpAny_pure (wpAny_pure h)
    | exact wpAny_pure h
    | exact wpAny_pure (wpAny_bind (wpAny_pure (wpAny_pure h)))
theorem kit_exc (C : ExcC K D) : KitX K (.ref x) (.ref D) (fun h => InstAt h x ox D od) where
  ty := fun _ _ _ I => I.type
  it := fun _ _ inK _ => by
    obtain ⟨cd, hc, _⟩ := any_some C.hd
    unfold clsIn at hc
    split at hc
    · rename_i hob
      intro A' Q' E' s' k q
      unfold isType loadHead
      exact wpAny_bind (wpAny_loadPart (k _ _ (inK _ _ hob)) (wpAny_pure q))
    · cases hc
  ne := fun h tp dd its n sl inK htp => by
    obtain ⟨cd, hc, _⟩ := any_some C.hd
    refine Bool.eq_false_iff.mpr fun q => ?_
    have e : D = tp := Value.ref.inj (beq_iff_eq.mp q)
    subst e
    unfold clsIn at hc
    split at hc
    · rename_i hob
      have z := (inK _ _ hob).symm.trans htp
      cases z
    · cases hc
  ca := fun inK I k => cls_exc C inK I k
end
/-- isinstance(e, c), e the error that the suite holds, its dict at dd -/
theorem call_isX {X : Cx} {a D dd : Addr} {oe : Obj} {pn : List (Addr × Obj)} (C : ExcC X.K D)
    (hz : Zc (.ref D) (some dd) oe) (hf : ∃ vs, oe.data = .fields vs) :
    CallR (X.suite a ((a, oe) :: pn)) (.builtin "isinstance") (fun xs H Q => (∃ fs, H dd = some (.xd fs)) ∧ rIsE X.K D a xs H Q) := by
  intro pins s σ H xs us Q I r h
  obtain ⟨⟨fs, hx⟩, c, cv, b, rfl, hcv, e, q⟩ := h
  obtain ⟨u1, u2, rfl, r1, r2⟩ := vals2 r
  obtain rfl : u1 = Value.ref a := r1
  have ec := hcv _ r2
  subst ec
  obtain ⟨hget, _⟩ := I.pin (a, oe) (List.mem_append.mpr (.inl List.mem_cons_self))
  obtain ⟨vs, hv⟩ := hf
  obtain ⟨mA, ⟨od, es, ep, hod, _⟩, _⟩ := (show ObjOk X.prog X.w H s.heap dd (.xd fs) from I.hok dd _ hx)
  have J : InstAt s.heap a oe D (some od) := by
    obtain ⟨oc, odi, oda, osl⟩ := oe
    obtain ⟨h1, h2⟩ := hz
    dsimp only at h1 h2 hv
    subst h1 h2 hv
    exact ⟨hget, rfl, rfl, hod⟩
  exact kia_one (kit_exc C) I.kIn J e (fun z => nomatch z)
    fun tk => ⟨.bl b, H, I.kept (t' := tk) fun _ _ z => z, rfl, q⟩

/-- an error's own __init__ that keeps one field -/
def spIni (C : Addr) (f : Str) : Sp := fun vs H Q _ => ∃ (a : Addr) (v : V), vs = [.ref a, v] ∧ H a = some (exo a C none) ∧
  ∀ dx, H dx = none → dx ≠ a → Q .non (upd (upd H dx (exd dx [(f, v)])) a (exo a C (some dx)))
/-- what is known of such a class -/
structure XCls (P : Program) (w : World) (K : PySem.W.Frag) (mg : Str → Option Value) (bs : Heap) (nm : Str) (C : Addr) (f : Str) (p : Str) : Prop where
  oex : OexC K C
  xf : XfC K C
  exc : ExcC K C
  no : PySem.W.findIn K (.ref C) f = some none
  gC : mg nm = some (.ref C)
  ini : ∃ (fI : Addr) (fd : FuncData), PySem.W.findIn K (.ref C) "__init__" = some (some (.ref fI)) ∧
    PySem.W.typeIn K (.ref fI) = some (.type "function") ∧ FnOk P w K mg bs CX0 1 fI fd ["self", p] (spIni C f) ∧ Binds K fd ["self", p] []
/-- what the making of such an error comes to -/
theorem made_go {C : Addr} {f : Str} {v : V} {H : Hp} {R : XK} (h : ∀ d, H d = none → R (.ref C) (some d) (upd H d (.xd [(f, v)]))) :
    [v].length ≤ 1000 ∧ ∀ a, H a = none → spIni C f (.ref a :: ([v] ++ [])) (upd H a (exo a C none))
      (fun u H2 => u = .non ∧ ∃ (d : Addr) (fs : List (Str × V)), H2 a = some (exo a C (some d)) ∧ H2 d = some (exd d fs) ∧ H d = none ∧
        R (.ref C) (some d) (upd (del H2 a) d (.xd fs))) (fun _ _ _ => False) := by
  refine ⟨(by show 1 ≤ 1000; decide), fun a ha => ⟨a, v, rfl, upd_same, fun dx hdx ne => ⟨rfl, dx, [(f, v)], upd_same, ?_, ?_, ?_⟩⟩⟩
  · rw [upd_ne ne, upd_same]
  · rw [upd_ne ne] at hdx
    exact hdx
  · have hd : H dx = none := by
      rw [upd_ne ne] at hdx
      exact hdx
    have e : upd (del (upd (upd (upd H a (exo a C none)) dx (exd dx [(f, v)])) a (exo a C (some dx))) a) dx (.xd [(f, v)]) = upd H dx (.xd [(f, v)]) := by
      funext b
      by_cases h1 : b = dx
      · rw [h1, upd_same, upd_same]
      · rw [upd_ne h1, upd_ne h1]
        by_cases h2 : b = a
        · rw [h2, del_same, ha]
        · rw [del_ne h2, upd_ne h2, upd_ne h1, upd_ne h2]
    rw [e]
    exact h dx hd
/-- raise C(e) -/
theorem ps_raiseC {X : Cx} {W : WX} {nm : Str} {C : Addr} {f p : Str} {e : Expr} {te : TE} {np pos pos2 : Pos} (hc : X.calm = true)
    (T : XCls X.prog X.w X.K X.mg X.base nm C f p) (hr : Room 2 X.A) (tk : Takes X W) (hg : Gl X nm) (he : PE X e te)
    (hdb : (nm == ("__debug__" : Str)) = false := by decide) (hs : starEach [e] X.env = (false, eval e X.env) :: starEach [] X.env := by rfl) :
    PS X (.Raise (some (.Call (.Name nm np) [e] [] pos)) none pos2)
      (fun _ σ H => tMkO C (spIni C f) [] (tCons te tNil) σ H fun cls d H' => W cls d σ H') := by
  obtain ⟨fI, fd, h1, h2, h3, h4⟩ := T.ini
  exact ps_raise (pos := pos2) hc tk (pmk_oex (pos := pos) (p := np) T.oex h1 h2 h3 hr h4 .nil (fun _ _ _ _ _ _ _ h => h.elim) hg T.gC (pa_cons he pa_nil hs) hdb hs)
/-- the __init__ of such a class: self.f = p -/
theorem ok_ini {P : Program} {w : World} {K : PySem.W.Frag} {mg : Str → Option Value} {bs : Heap} {ql p f : Str} {st : Stmt} {fI C : Addr} {fd : FuncData}
    {q1 q2 q3 q4 : Pos} (F : Fun K "__init__" ql st fI fd) (S : FnScope ["self", p] ["self", p] (defScope st)) (T : OexC K C)
    (no : PySem.W.findIn K (.ref C) f = some none)
    (hb : defBody st = [.Assign [.Attribute (.Name "self" q1) f q2] (.Name p q3) q4])
    (h1 : (defScope st).names.lookup ("self" : Str) = some .local) (h2 : (defScope st).names.lookup p = some .local)
    (n1 : (p == ("__debug__" : Str)) = false) (n2 : (p == ("__classdict__" : Str)) = false) :
    FnOk P w K mg bs CX0 1 fI fd ["self", p] (spIni C f) := by
  refine F.ok S (fun vs H Q E h => ?_) (fun cdv A outer s H vs Q E hr h => ?_)
  · obtain ⟨a, v, rfl, _⟩ := h
    rfl
  · obtain ⟨a, v, rfl, ha, q⟩ := h
    rw [hb]
    refine ⟨_, pss_one (ps_ost (pe_var (i := 0) rfl (.inl h1) (by decide) (by decide)) (pe_var (i := 1) rfl (.inl h2) n1 n2)), ?_⟩
    exact ⟨_, rfl, _, rfl, a, C, rfl, T, no, .inl ⟨ha, fun dx hd ne => q dx hd ne⟩⟩

/-- as okG, for a def that errors may leave -/
theorem okGX {P : Program} {w : World} {K : PySem.W.Frag} {mg : Str → Option Value} {bs : Heap} {x ql : Str} {st : Stmt} {f : Addr} {fd : FuncData} {N ps : List Str} {k : Nat} {sp : Sp}
    (F : Fun K x ql st f fd) (S : FnScope N ps (defScope st)) (ln : ∀ vs H Q E, sp vs H Q E → vs.length = ps.length)
    (hb : ∀ (cv : Value) (A : Around) (ou : List Env) (s : Shared) (H : Hp) (vs : List V) (Q : VK) (E : XK), A.guards = some [] →
      Room k (A.deeper (envOfC ql (defScope st) s.heap.objs.size f cv)) → sp vs H Q E →
      ∃ t, PSs (cxOf (L2.CX P w) P w K mg bs N ql (defScope st) f cv A ou s H E) (defBody st) t ∧
        t { nx := fun _ J => Q .non J, rt := Q } (start N vs) H) : FnG P w K mg bs (L2.CX P w) (k + 1) f fd ps sp := by
  obtain ⟨oc, od, kV, doc, pm, an, cdv, ct, osl, rfl, lk, hcd⟩ := F.ex
  exact fn_ofG lk hcd S ln fun A ou s H vs Q E gd rm pr => hb cdv A ou s H vs Q E gd rm pr
end G
set_option maxHeartbeats 2000000
/-! Lambdas handed to a def, where no repr is under way: what stays when a table grows, and the end of a row. -/
namespace G
open PySem PySem.Spec PyProof.Rows L2 LamX

theorem ntL {xs : List V} (ps : Array Value) : HO.lst xs ≠ .tbl ps := fun z => by cases z
theorem ntT {xs : List V} (ps : Array Value) : HO.tup xs ≠ .tbl ps := fun z => by cases z
theorem ntD {xs : List (Key × V)} (ps : Array Value) : HO.dK xs ≠ .tbl ps := fun z => by cases z
theorem ntF {o : Obj} {u : HO} (ps : Array Value) : HO.frz o u ≠ .tbl ps := fun z => by cases z
mutual
theorem Da.monoN {H H' : Hp} (e : ExtN H H') {v : V} {d : PyData} : Da H v d → Da H' v d
  | .non => .non
  | .bl b => .bl b
  | .int i => .int i
  | .str x => .str x
  | .lst n h t => .lst n (e _ _ h ntL) (DaAll.monoN e t)
  | .tup h t => .tup (e _ _ h ntT) (DaAll.monoN e t)
  | .dic h t => .dic (e _ _ h ntD) (DaAll.monoN e t)
theorem DaAll.monoN {H H' : Hp} (e : ExtN H H') {vs : List V} {ds : List PyData} :
    DaAll H vs ds → DaAll H' vs ds
  | .nil => .nil
  | .cons h t => .cons (Da.monoN e h) (DaAll.monoN e t)
end
theorem Rng.extN {r : Addr} {H H' : Hp} (R : Rng H r) (s : ExtN H H') : Rng H' r := by
  obtain ⟨a, b, e, z⟩ := R
  exact ⟨a, b, s _ _ e ntL, z⟩
theorem sq_extN {K : PySem.W.Frag} {a : Addr} {J0 J : Hp} {xs : List V} (h : SqL K J0 a xs) (e : ExtN J0 J) : SqL K J a xs := by
  rcases h with (h | ⟨o, h⟩) | h
  · exact .inl (.inl (e _ _ h ntL))
  · exact .inl (.inr ⟨o, e _ _ h ntF⟩)
  · exact .inr h
theorem ExtN.same {H H' : Hp} (e : Same H H') : ExtN H H' := fun b o h _ => e b o h
/-- the tables where all but what stands at r is kept -/
theorem tabs_ext {T : List (Addr × Str)} {r : Addr} {H H' : Hp} (t : Tabs T H) (e : Ext r H H') (R : Rng H r) : Tabs T H' := by
  obtain ⟨a, b, er, _⟩ := R
  intro p hp
  obtain ⟨ps, h1, h2, h3⟩ := t p hp
  have n1 : p.1 ≠ r := fun z => by
    rw [z, er] at h1
    cases h1
  refine ⟨ps, e _ _ n1 h1, h2, fun pos cv hc => ?_⟩
  obtain ⟨c, e1, e2⟩ := h3 pos cv hc
  have n2 : c ≠ r := fun z => by
    rw [z, er] at e2
    unfold CodeO at e2
    cases e2
  exact ⟨c, e1, e _ _ n2 e2⟩
/-- all but the tables and what stands at r is kept -/
def ExtR (r : Addr) (H H' : Hp) : Prop := ∀ b o, b ≠ r → (∀ ps, o ≠ .tbl ps) → H b = some o → H' b = some o
theorem ExtR.refl (r : Addr) (H : Hp) : ExtR r H H := fun _ _ _ _ h => h
theorem ExtR.trans {r : Addr} {H H1 H2 : Hp} (a : ExtR r H H1) (b : ExtR r H1 H2) : ExtR r H H2 :=
  fun q o n m h => b q o n m (a q o n m h)
theorem ExtR.ext {r : Addr} {H H' : Hp} (e : Ext r H H') : ExtR r H H' := fun q o n _ h => e q o n h
theorem ExtR.extN {r : Addr} {H H' : Hp} (e : ExtN H H') : ExtR r H H' := fun q o _ m h => e q o h m
theorem sq_extR {K : PySem.W.Frag} {r a : Addr} {J0 J : Hp} {xs : List V} (h : SqL K J0 a xs) (n : J0 r = none)
    (e : ExtR r J0 J) : SqL K J a xs := by
  rcases h with (h | ⟨o, h⟩) | h
  · exact .inl (.inl (e _ _ (ne_of_none h n) ntL h))
  · exact .inl (.inr ⟨o, e _ _ (ne_of_none h n) ntF h⟩)
  · exact .inr h
/-- what leaves a lambda's body -/
theorem lam_takes {X : Cx} {A : Around} {ou : List Env} {s : Shared} {H : Hp} {E : XK} {sc : Scope} {f c : Addr} :
    Takes (lamCx X A ou s H E sc f c) (fun cls d _ H => E cls d H) := takes_of rfl rfl rfl rfl
theorem lam_pass {X : Cx} {A : Around} {ou : List Env} {s : Shared} {H : Hp} {E : XK} {sc : Scope} {f c : Addr} :
    Passes (L2.CX X.prog X.w) (lamCx X A ou s H E sc f c) E := passes_call (lam_takes) fun _ _ _ _ h => h

theorem law_callGT {P : Program} {w : World} {K : PySem.W.Frag} {mg mb : Str → Option Value} {k : Nat}
    {f a : Addr} {fd : FuncData} {x : Str} {sp : Sp} {st : Shared} {us : List Value} {ns : List Int}
    {cs : List (Addr × Addr)}
    (inK : K.In st.heap) (hg : st.heap.Ns mainGlobals mg) (hb : st.heap.Ns builtinsNs mb)
    (bb : ∀ y : Str, y ≠ "__name__" → mb y = bootBuiltins y) (nl : st.heap.NoLimit)
    (gn : st.gens = #[])
    (tb : ∀ p ∈ cs, PySem.W.CodeHd st.heap p.1 p.2 ∧ st.heap.get? p.2 = some (PySem.W.tabObj #[]))
    (nk : ∀ p ∈ cs, K.lookup p.2 = none)
    (bm : ∃ (m : Addr) (o : Obj), mg "__builtins__" = some (.ref m) ∧ m ≠ builtinsNs ∧
      st.heap.get? m = some o ∧ o.cls = .type "module" ∧ o.dict = some builtinsNs ∧ o.data = .plain)
    (ho : st.heap.get? a = some { cls := .type "list", data := .seq us.toArray }) (hi : IntsAre us ns)
    (hl : ns.length ≤ sizeLine) (rm : Room k callerA)
    (F : ∀ bs : Heap, K.In bs → bs.Ns mainGlobals mg → (∀ p ∈ cs, TabB bs mg p.1 p.2) →
      FnG P w K mg bs CX0 k f fd [x] sp)
    (bind : ∀ (s : Shared) (u : Value), BindsTo s fd ⟨[u], []⟩ [(x, u)])
    (hsp : ∀ H : Hp, (∀ p ∈ cs, H p.2 = some (.tbl #[])) → SqL K H a (ns.map V.int) →
      sp [.ref a] H (fun v _ => v = .bl true) fun _ _ _ => False) :
    codeAny (model P w) callerA (.call (.ref f) ⟨[.ref a], []⟩)
      (fun r s' => r = .ok (.ret (.bool true)) ∧ OldK st.heap s'.heap ∧ s'.os = st.os ∧
        AllBare s'.gens) st := by
  have vls := vals_ints hi
  have len := hi.length
  have tb2 : ∀ b, b ∈ cs.map (·.2) → st.heap.get? b = some (PySem.W.tabObj #[]) := by
    intro b q
    obtain ⟨p, hp, rfl⟩ := List.mem_map.mp q
    exact (tb p hp).2
  have main : ∀ H : Hp, (∀ p ∈ cs, H p.2 = some (.tbl #[])) →
      (∀ b u, H b = some u → (b = a ∧ K.lookup a = none ∧
        u = .frz { cls := .type "list", data := .seq us.toArray } (.lst (ns.map V.int))) ∨
        (b ∈ cs.map (·.2) ∧ u = .tbl #[])) → SqL K H a (ns.map V.int) →
      codeAny (model P w) callerA (.call (.ref f) ⟨[.ref a], []⟩)
        (fun r s' => r = .ok (.ret (.bool true)) ∧ OldK st.heap s'.heap ∧ s'.os = st.os ∧
          AllBare s'.gens) st := by
    intro H hT hO sq
    have hok : HOk P w H st.heap := by
      intro b u z
      rcases hO b u z with ⟨rfl, _, rfl⟩ | ⟨q, rfl⟩
      · exact ⟨ho, by rw [List.length_map]; exact hl, us, _, vls, ho⟩
      · exact tb2 b q
    -- what is neither a list nor an empty table is not told of
    have free : ∀ {b : Addr} {o : Obj}, st.heap.get? b = some o → (∀ vs n, o.data ≠ .seq vs n) →
        o.data ≠ .fields #[] → H b = none := by
      intro b o e h1 h2
      cases q : H b with
      | none => rfl
      | some u =>
        rcases hO b u q with ⟨rfl, _, _⟩ | ⟨z, _⟩
        · rw [ho] at e
          cases e
          exact absurd rfl (h1 us.toArray _)
        · rw [tb2 b z] at e
          cases e
          exact absurd rfl h2
    have keepN : ∀ {b : Addr} {m : Str → Option Value}, st.heap.Ns b m →
        (hidT st.heap H).Ns b m := by
      rintro b m ⟨o, es, ep, e, d, r⟩
      refine ⟨o, es, ep, hidT_get e (free e (fun vs n z => ?_) fun z => ?_), d, r⟩ <;>
      · rw [d] at z
        cases z
    have inB : K.In (hidT st.heap H) := by
      intro b o e
      refine hidT_get (inK b o e) ?_
      cases q : H b with
      | none => rfl
      | some z =>
        rcases hO b z q with ⟨rfl, n, _⟩ | ⟨y, _⟩
        · rw [n] at e
          cases e
        · obtain ⟨p, hp, rfl⟩ := List.mem_map.mp y
          rw [nk p hp] at e
          cases e
    obtain ⟨mc, n1, n2⟩ := nl
    have md : Mod K mg (hidT st.heap H) := ⟨inB, keepN hg, ⟨mb, keepN hb, bb⟩, mc, keepN n1, n2⟩
    have tB : ∀ p ∈ cs, TabB (hidT st.heap H) mg p.1 p.2 := by
      intro p hp
      obtain ⟨⟨o, vs, fl, tf, gs, tg, iF, tx, tt, e1, r1, r2, r3, rs⟩, e0⟩ := tb p hp
      refine ⟨⟨o, vs, fl, tf, gs, tg, iF, tx, tt, hidT_get e1 (free e1 ?_ ?_), r1, r2, r3, rs⟩, ?_, ?_⟩
      · intro ys n z
        rw [r2] at z
        cases z
      · intro z
        rw [r2] at z
        cases z
        simp at r3
      · obtain ⟨m, ob, b1, b2, b3, b4, b5, b6⟩ := bm
        have g1 : m ≠ mainGlobals := by
          intro q
          obtain ⟨o', es, ep, e', d', _⟩ := hg
          rw [q, e'] at b3
          cases b3
          rw [b6] at d'
          cases d'
        have g2 : m ≠ p.2 := by
          intro q
          rw [q, e0] at b3
          cases b3
          cases b6
        refine ⟨m, ob, b1, b2, g1, g2, hidT_get b3 (free b3 ?_ ?_), b4, b5, b6⟩
        · intro ys n z
          rw [b6] at z
          cases z
        · intro z
          rw [b6] at z
          cases z
      · intro q
        obtain ⟨o', es, ep, e', d', _⟩ := hg
        rw [q, e0] at e'
        cases e'
        cases d'
    have ev : Env0 P w K mg (hidT st.heap H) callerA [] st H :=
      ⟨rfl, md, fun b o e => of_hidT e, Nat.le_of_eq (hidT_size _ _), trivial,
        fun b z => (by simp [frs] at z), hok, .of_eq gn⟩
    refine codeAny_mono ((F _ inB (keepN hg) tB).runG callerA [] st H ⟨[.ref a], []⟩ [.ref a] [.ref a]
      _ _ rfl rm ev (bind st (.ref a)) (.cons rfl .nil) (hsp H hT sq)) fun r s2 z => ?_
    cases r with
    | error e => exact z.elim
    | ok fl =>
      cases fl with
      | next => exact z.elim
      | brk => exact z.elim
      | cont => exact z.elim
      | ret u =>
        obtain ⟨v, H2, os, bare, un, hok2, rv, q⟩ := z
        have qv : v = .bl true := q
        subst qv
        obtain rfl : u = Value.bool true := rv
        have key : ∀ b o, b ∉ cs.map (·.2) → st.heap.get? b = some o → s2.heap.get? b = some o := by
          intro b o nb e
          cases q2 : H b with
          | none => exact un.keep b o e q2 (fun z => by simp [frs] at z) (by simp)
          | some z =>
            rcases hO b z q2 with ⟨rfl, _, rfl⟩ | ⟨y, _⟩
            · obtain ⟨m1, _⟩ := hok b _ q2
              obtain ⟨m2, _⟩ := hok2 b _ (un.frzs b _ _ q2)
              rw [e] at m1
              cases m1
              exact m2
            · exact absurd y nb
        have grown : ∀ p ∈ cs, ∃ more : Array Value,
            s2.heap.get? p.2 = some (PySem.W.tabObj (#[] ++ more)) := by
          intro p hp
          obtain ⟨more, y⟩ := un.tbls p.2 #[] (hT p hp)
          exact ⟨more, hok2 p.2 _ y⟩
        refine ⟨rfl, ⟨fun b o e => ?_, fun b o e => ?_⟩, os, bare⟩
        · by_cases y : b ∈ cs.map (·.2)
          · obtain ⟨p, hp, rfl⟩ := List.mem_map.mp y
            obtain ⟨more, hm⟩ := grown p hp
            rw [(tb p hp).2] at e
            cases e
            exact .inr (.inl ⟨((tb p hp).1.tab (tb p hp).2).isCodeTable, rfl, #[], more, rfl, hm⟩)
          · exact .inl (key b o y e)
        · by_cases y : b ∈ cs.map (·.2)
          · obtain ⟨p, hp, rfl⟩ := List.mem_map.mp y
            obtain ⟨more, hm⟩ := grown p hp
            exact ⟨_, hm⟩
          · exact ⟨o, key b o y e⟩
  have aT : a ∉ cs.map (·.2) := by
    intro q
    have z := (tb2 a q).symm.trans ho
    cases z
  have m2 : ∀ p ∈ cs, p.2 ∈ cs.map (·.2) := fun p hp => List.mem_map_of_mem hp
  cases hk : K.lookup a with
  | some o =>
    have e := inK a o hk
    rw [ho] at e
    cases e
    refine main (fun b => if b ∈ cs.map (·.2) then some (.tbl #[]) else none) (fun p hp => if_pos (m2 p hp))
      (fun b u z => ?_) (.inr ⟨_, us.toArray, _, hk, rfl, rfl, rfl, ?_, ?_⟩)
    · by_cases y : b ∈ cs.map (·.2)
      · exact .inr ⟨y, (Option.some.inj ((if_pos y).symm.trans z)).symm⟩
      · cases (if_neg y).symm.trans z
    · rw [List.size_toArray, len]
      exact hl
    · simpa using vls
  | none =>
    refine main (fun b => if b = a then some (.frz { cls := .type "list", data := .seq us.toArray }
      (.lst (ns.map V.int))) else if b ∈ cs.map (·.2) then some (.tbl #[]) else none) (fun p hp => ?_)
      (fun b u z => ?_) (.inl (.inr ⟨_, if_pos rfl⟩))
    · have n1 : p.2 ≠ a := fun q => aT (q ▸ m2 p hp)
      exact (if_neg n1).trans (if_pos (m2 p hp))
    · by_cases y : b = a
      · exact .inl ⟨y, hk, (Option.some.inj ((if_pos y).symm.trans z)).symm⟩
      · have z1 := (if_neg y).symm.trans z
        by_cases y2 : b ∈ cs.map (·.2)
        · exact .inr ⟨y2, (Option.some.inj ((if_pos y2).symm.trans z1)).symm⟩
        · cases (if_neg y2).symm.trans z1

/-- what is known of a law's promise at the heap that the head leaves -/
def AtG (l : PySem.W.OpenLaw) (w : World) (K : PySem.W.Frag) (mg : Str → Option Value) (k n : Nat)
    (x : Str) (fa : Addr) (ms : List Str) : Prop :=
  ∃ (fd : FuncData) (cs : List (Addr × Addr)) (sp : Sp),
    (∀ p ∈ cs, ∃ m ∈ ms, PySem.W.tabIn K m = some p) ∧ (∀ p ∈ cs, K.lookup p.2 = none) ∧
    (∀ (s : Shared) (u : Value), BindsTo s fd ⟨[u], []⟩ [(x, u)]) ∧
    (∀ (H : Hp) (a : Addr) (ns : List Int), ns.length ≤ n → (∀ p ∈ cs, H p.2 = some (.tbl #[])) →
      SqL K H a (ns.map V.int) → sp [.ref a] H (fun v _ => v = .bl true) fun _ _ _ => False) ∧
    ∀ bs : Heap, K.In bs → bs.Ns mainGlobals mg → (∀ p ∈ cs, TabB bs mg p.1 p.2) →
      FnG l.prog w K mg bs CX0 k fa fd [x] sp
/-- the goal that the head leaves, for a law of whose defs some make lambdas -/
theorem walk_ofGT {l : PySem.W.OpenLaw} {n k : Nat} {q : Program} {loose : List Str}
    {XP : (Str → Option Value) → Heap → Prop} {YP : World → Heap → Prop} {d : DefRec}
    {K : Params → PySem.W.Frag} {x : Str} {ms : List Str} (hn : l.most = some n) (n2 : n ≤ sizeLine)
    (hd : d.params.defaults = []) (rm : Room k callerA)
    (hr : ∀ m ∈ ms, ((recsOf q).find? fun e => e.name == m).isSome = true)
    (hY : ∀ (w : World) (h : Heap), YP w h → (K w.params).In h)
    (F : ∀ (w : World) (mg : Str → Option Value) (fa : Addr) (h : Heap), (K w.params).In h →
      h.Ns mainGlobals mg → mg d.name = some (.ref fa) → AtG l w (K w.params) mg k n x fa ms) :
    PySem.W.WalkO q loose XP YP l.row.toRowW d [] (fun f vs => PySem.call f vs) := by
  refine Att.attach_call hn hd
    fun w s0 s1 mg mb fa o pm cd doc a us ns Gr Y _ _ _ hmg hobj hints hlen gn => ?_
  have inK := hY w _ Y
  obtain ⟨fd, cs, sp, ht, nk, hb, hsp, hF⟩ := F w mg fa _ inK Gr.T.g hmg
  refine law_callGT inK Gr.T.g Gr.T.b Gr.T.builtins Gr.T.nolimit gn (fun p hp => ?_) nk Gr.T.bmain hobj hints
    (Nat.le_trans hlen n2) rm hF hb fun H hT hS => hsp H a ns hlen hT hS
  obtain ⟨m, hm, e⟩ := ht p hp
  obtain ⟨dm, hdm⟩ := Option.isSome_iff_exists.mp (hr m hm)
  exact PySem.W.tab_of Gr.T inK hdm e
end G
set_option maxHeartbeats 2000000
/-! Rules that the hand layer lacks: list.count of bools, list(t) off sys.modules, t[::-1] of a pair, isinstance by a tuple of classes. -/
namespace G
open PySem PySem.Spec PyProof.Rows PySem.W L2
section
variable {X : Cx}
theorem bools_read {h : Heap} : ∀ {bs : List Bool} {us : List Value}, Vals (bs.map V.bl) us → ReadsAll h us (bs.map PyData.bool) []
  | [], us, r => by
    cases r
    exact .nil
  | b :: bs, us, r => by
    cases r with
    | cons r1 r2 =>
      rename_i u us'
      obtain rfl : u = Value.bool b := r1
      exact .cons (.bool b) (bools_read r2)
theorem bools_all (bs : List Bool) : (bs.map PyData.bool).all Shape.bool.has = true := by
  rw [List.all_eq_true]
  intro d hd
  obtain ⟨b, _, rfl⟩ := List.mem_map.mp hd
  rfl
/-- xs.count(b) of a list of bools -/
def rCountB (K : Frag) : V → List V → Hp → VK → Prop := fun x xs H Q => ∃ (a : Addr) (bs : List Bool) (k : Bool),
  x = .ref a ∧ xs = [.bl k] ∧ SqL K H a (bs.map V.bl) ∧ Q (.int (countIn (.bool k) (bs.map PyData.bool))) H
theorem mt_countB : MtR X "list.count" (rCountB X.K) := by
  intro pins s σ H x xs v us Q I rx rs h
  obtain ⟨a, bs, k, rfl, rfl, hl, q⟩ := h
  cases rx
  obtain ⟨u, rfl, ru⟩ := vals1 rs
  obtain rfl : u = Value.bool k := ru
  obtain ⟨its, rv, pl, hz⟩ := I.list hl
  exact count_list_bools pl.isList (bools_read (h := s.heap) rv) (bools_all bs) ⟨.int _, H, I.tok _, ⟨_, rfl⟩, q⟩

/-- list(x) of a list or a tuple, its place not that of sys.modules -/
theorem call_listS : CallR X (.type "list") (fun xs H Q => ∃ (p : Addr) (ys : List V), xs = [.ref p] ∧
    (SqL X.K H p ys ∨ SqT X.K H p ys) ∧ ∀ l, H l = none → l ≠ sysModules → Q (.ref l) (upd H l (.lst ys))) := by
  intro pins s σ H xs us Q I r h
  obtain ⟨p, ys, rfl, hq, q⟩ := h
  obtain ⟨u, rfl, rx⟩ := vals1 r
  cases rx
  have fin : ∀ (its : List Value), Vals ys its → ys.length ≤ sizeLine → ∀ (h' : Heap) (c' : Nat),
      (∀ b o', s.heap.get? b = some o' → h'.get? b = some o') →
      h'.get? s.heap.objs.size = some { cls := .type "list", dict := none, data := .seq its.toArray c', slots := #[] } →
      EP X pins σ Q (.ref s.heap.objs.size) { s with heap := h' } := by
    intro its r' hz h' c' kp e
    refine ⟨.ref s.heap.objs.size, _, I.laid (t' := s.toks) kp (Nat.le_refl _) (o := .lst ys) ?_, rfl,
      q _ (I.hok.fresh (Nat.le_refl _)) (Nat.ne_of_gt I.big)⟩
    exact ⟨hz, its, c', r', e⟩
  rcases hq with hq | hq
  · obtain ⟨its, r', pl, hz⟩ := I.list hq
    have hlen := r'.length
    obtain ⟨o, ho, hc, n, hd⟩ := pl.isList
    refine call_list_seq p (.inl rfl) ho hc hd (fun h' c' kp e => fin its r' hz h' c' kp e) ?_
    simp only [List.size_toArray]
    omega
  · obtain ⟨its, r', pl, hz⟩ := I.tuple hq
    have hlen := r'.length
    obtain ⟨o, ho, hc, n, hd⟩ := pl
    refine call_list_seq p (.inr rfl) ho hc hd (fun h' c' kp e => fin its r' hz h' c' kp e) ?_
    simp only [List.size_toArray]
    omega

theorem applied_rev2 {prog : Program} {w : World} {A : Around} {E : Value → Shared → Prop} {s : Shared} {sl : Addr} {vl vu vs : Value}
    {Q : Int × Int × Nat → Shared → Prop} (hs : s.heap.IsSliceOf sl vl vu vs) (pl : IsPart vl none) (pu : IsPart vu none) (ps : IsPart vs (some (-1)))
    (h : Q (1, -1, 2) s) : wpAny (model prog w) A (Builtin.Slice.sliceApplied (.ref sl) (pure ((2 : Nat) : Int))) Q E s := by
  obtain ⟨o, ho, hc, hd⟩ := id hs
  unfold Builtin.Slice.sliceApplied Builtin.Slice.sliceFields
  refine wpAny_bind (wpAny_bind (wpAny_field ho hd (x := vl) rfl ?_))
  refine wpAny_bind (wpAny_field ho hd (x := vu) rfl ?_)
  refine wpAny_bind (wpAny_field ho hd (x := vs) rfl (wpAny_pure ?_))
  refine wpAny_bind (HT.slicePart_ ps ?_)
  show wpAny _ _ (if ((-1 : Int) == 0) = true then _ else _) _ _ s
  rw [if_neg (by decide)]
  refine wpAny_bind (HT.slicePart_ pl ?_)
  refine wpAny_bind (HT.slicePart_ pu ?_)
  refine wpAny_bind (wpAny_pure ?_)
  exact wpAny_pure h
theorem item_rev2 {prog : Program} {w : World} {A : Around} {E : Value → Shared → Prop} {s : Shared} {t sl : Addr} {a b vl vu vs : Value}
    {Q : Value → Shared → Prop} (ht : IsTup s.heap t #[a, b]) (hs : s.heap.IsSliceOf sl vl vu vs) (pl : IsPart vl none) (pu : IsPart vu none) (ps : IsPart vs (some (-1)))
    (h : Q (.ref s.heap.objs.size) { s with heap := s.heap.push { cls := .type "tuple", data := .seq #[b, a] } }) :
    wpAny (model prog w) A (getItem (.ref t) (.ref sl)) Q E s := by
  have hk : sizeOk (.seq #[b, a]) := by
    show 2 ≤ sizeLine
    decide
  obtain ⟨o, ho, hc, hd⟩ := id hs
  have ty : s.TypeIs (.ref sl) "slice" := ⟨o, ho, hc⟩
  unfold getItem
  try with_reducible refine wpAny_holding ?_
  first
    | refine wpAny_bind (wpAny_pure ?_)
    | skip
  refine wpAny_bind (wpAny_sequenceKey ht.typeIs (by decide) ?_)
  refine wpAny_bind (wpAny_callSpecial?_slot (name := Str.ofString "__getitem__") ht.typeIs
    PyProof.Rows.slot_tuple_getitem (wpAny_call_entry PyProof.Rows.slot_tuple_getitem ht.typeIs
      PyProof.Rows.entry_tuple_getitem ?_ (PyProof.Rows.args_tuple_getitem _ _)))
  show wpAny _ _ (Builtin.Tuple.tupleItemsOf (.ref t) >>= _) _ _ s
  refine wpAny_bind (tupleItemsOf_ ht ?_)
  refine wpAny_bind (wpAny_typeOf ty ?_)
  rw [if_pos (by decide)]
  refine wpAny_bind (applied_rev2 hs pl pu ps ?_)
  show wpAny _ _ (if ((1 : Int) == 0 && (-1 : Int) == 1 && (2 : Nat) == 2) = true then _ else _) _ _ s
  rw [if_neg (by decide)]
  first
    | exact wpAny_bind (m := Builtin.Tuple.tupleExact _) (wpAny_newObj_type (wpAny_pure ⟨_, rfl, wpAny_pure h⟩) hk)
    | exact wpAny_bind (wpAny_bind (m := Builtin.Tuple.tupleExact _) (wpAny_newObj_type (wpAny_pure ⟨_, rfl, wpAny_pure h⟩) hk))
    | exact wpAny_bind (wpAny_bind (m := Builtin.Tuple.tupleExact _) (wpAny_newObj_type (wpAny_pure (wpAny_pure ⟨_, rfl, wpAny_pure h⟩)) hk))
/-- t[::-1] of a pair -/
def tRev2 (K : Frag) (te : TE) : TE := fun σ H Q => te σ H fun x H1 => ∃ (a : Addr) (y z : V), x = .ref a ∧ SqT K H1 a [y, z] ∧
  ∀ p, H1 p = none → Q (.ref p) (upd H1 p (.tup [z, y]))
theorem pe_rev2 {e : Expr} {te : TE} {k : Nat} {p1 p2 p3 pos : Pos} (he : PE X e te) :
    PE X (.Subscript e (.Slice none none (some (.UnaryOp .USub (.Constant (.int 1) k p1) p2)) p3) pos) (tRev2 X.K te) := by
  refine ⟨fun pins s σ H Q I h => ?_⟩
  refine Subscript_ (thn (he.run pins s σ H _ I h) fun v s1 ⟨x, H1, I1, r1, q1⟩ => ?_)
  obtain ⟨a, y, z, ex, hx, q⟩ := q1
  subst ex
  cases r1
  have stp : PO X (some (.UnaryOp .USub (.Constant (.int 1) k p1) p2)) (tPart (tUn (rU fun i => .int (-i)) (tC (.int 1)))) :=
    po_some (pe_un un_neg pe_int)
  refine wpAny_Slice (thn (po_none.run pins s1 σ H1 (fun o J => o = none ∧ J = H1) I1 ⟨rfl, rfl⟩)
    fun vl s2 ⟨l, H2, I2, pl, el, e2⟩ => ?_)
  subst el e2
  refine thn (po_none.run pins s2 σ H2 (fun o J => o = none ∧ J = H2) I2 ⟨rfl, rfl⟩)
    fun vu s3 ⟨u, H3, I3, pu, eu, e3⟩ => ?_
  subst eu e3
  refine thn (stp.run pins s3 σ H3 (fun o J => o = some (-1) ∧ J = H3) I3 ⟨1, rfl, -1, rfl, rfl, rfl⟩)
    fun vs s4 ⟨o, H4, I4, ps, eo, e4⟩ => ?_
  subst eo e4
  have I5 : Inv X pins σ H4 { s4 with heap := s4.heap.push { cls := .type "slice", data := .fields #[vl, vu, vs] } } :=
    I4.kept (t' := s4.toks) fun b ob q => Heap.get?_push_of_some _ q
  obtain ⟨its, r, ht, hz⟩ := I5.tuple hx
  obtain ⟨uy, uz, rfl, ry, rz⟩ := vals2 r
  show wpAny (model X.prog X.w) X.A (subscriptTail e (.Slice none none (some (.UnaryOp .USub (.Constant (.int 1) k p1) p2)) p3)
    (.ref a) (.ref s4.heap.objs.size)) (EP X pins σ Q) X.xe
    { s4 with heap := s4.heap.push { cls := .type "slice", data := .fields #[vl, vu, vs] } }
  refine tail_any (ops := [.ref a, .ref s4.heap.objs.size]) ht.typeIs PyProof.Rows.slot_tuple_getitem.lookup ?_ (by with_unfolding_all rfl)
  refine item_rev2 ht (Heap.IsSliceOf.new _ vl vu vs) pl pu ps ?_
  refine ⟨.ref _, _, I5.laid (t' := s4.toks) (o := .tup [z, y]) (fun b ob q => Heap.get?_push_of_some _ q) (Nat.le_refl _) ?_, rfl,
    q _ (I5.hok.fresh (Nat.le_refl _))⟩
  exact ⟨by show 2 ≤ sizeLine; decide, _, .cons rz (.cons ry .nil), IsTup.new _ _⟩

/-- isinstance(e, (C, D, ..)), e the error that the suite holds -/
theorem call_isXT {a : Addr} {oe : Obj} {cls : Value} {d : Option Addr} {pn : List (Addr × Obj)} (hz : Zc cls d oe) (hf : ∃ vs, oe.data = .fields vs) :
    CallR (X.suite a ((a, oe) :: pn)) (.builtin "isinstance") (fun xs H Q => ∃ (D dd tp : Addr) (cs : List V) (cv : List Value) (b : Bool),
      cls = .ref D ∧ d = some dd ∧ ExcC X.K D ∧ (∃ fs, H dd = some (.xd fs)) ∧ xs = [.ref a, .ref tp] ∧ SqT X.K H tp cs ∧
      (∀ us, Vals cs us → us = cv) ∧ kitAny X.K (.ref D) cv = some b ∧ Q (.bl b) H) := by
  intro pins s σ H xs us Q I r h
  obtain ⟨D, dd, tp, cs, cv, b, rfl, rfl, C, ⟨fs, hx⟩, rfl, ht, hc, e, q⟩ := h
  obtain ⟨u1, u2, rfl, r1, r2⟩ := vals2 r
  obtain rfl : u1 = Value.ref a := r1
  obtain rfl : u2 = Value.ref tp := r2
  obtain ⟨hget, _⟩ := I.pin (a, oe) (List.mem_append.mpr (.inl List.mem_cons_self))
  obtain ⟨vs, hv⟩ := hf
  obtain ⟨mA, ⟨od, es, ep, hod, _⟩, _⟩ := (show ObjOk X.prog X.w H s.heap dd (.xd fs) from I.hok dd _ hx)
  obtain ⟨its, rv, tt, _⟩ := I.tuple ht
  have ei := hc its rv
  subst ei
  obtain ⟨⟨c0, d0, dt, sl⟩, h1, h2, n, h3⟩ := tt
  simp only at h2 h3
  subst h2 h3
  have J : InstAt s.heap a oe D (some od) := by
    obtain ⟨oc, odi, oda, osl⟩ := oe
    obtain ⟨h1, h2⟩ := hz
    dsimp only at h1 h2 hv
    subst h1 h2 hv
    exact ⟨hget, rfl, rfl, hod⟩
  exact kia_tup (kit_exc C) I.kIn J h1 e (fun z => nomatch z)
    fun tk => ⟨.bl b, H, I.kept (t' := tk) fun _ _ z => z, rfl, q⟩
end
end G
set_option maxHeartbeats 2000000
/-! A lambda called in a try by the def that got it: what it raises is taken at the slots of that very moment. -/
namespace G
open PySem PySem.Spec PyProof.Rows L2 LamX
section
variable {X : Cx} {pins : List (Addr × Obj)} {σ : L2.St} {H : Hp} {s : Shared}
theorem pe_actS {CXg : CXT} {Eg : XK} {Ng : List Str} {qg : Str} {sg : Scope} {g f c' : Addr} {cdg pm ctv : Value}
    {params : Arguments} {body : Expr} {scope : Scope} {k i : Nat} {a : Str} {pn : List (Addr × Obj)}
    {xe : Value → Shared → Prop} {W : WX} {tb : XK → TE} {p1 p2 : Pos}
    (I : Inv X pins σ H s) (L : LamS X.env.scope scope)
    (hf : s.heap.get? f = some (PySem.W.kla_obj "<lambda>" (X.env.qual ++ "<lambda>") params body scope
      (cloFrom X.env.cells scope.names []) pm c' ctv))
    (hn : H f = none) (hfr : f ∉ frs X.stack)
    (hbind : bindArgs (PySem.W.kla_fn "<lambda>" (X.env.qual ++ "<lambda>") params body scope
      (cloFrom X.env.cells scope.names []) pm (.ref c') ctv) ⟨[], []⟩ = pure [])
    (tk : Takes ((cxOf CXg X.prog X.w X.K X.mg X.base Ng qg sg g cdg X.A X.stack s H Eg).tr pn xe) W)
    (hr : Room (k + 1) (X.A.deeper (envOfC qg sg s.heap.objs.size g cdg)))
    (hbody : ∀ (E : XK) (A : Around) (ou : List Env) (s : Shared) (H : Hp), A.guards = X.A.guards →
      Room k (A.deeper (lamEnv X scope s.heap.objs.size f c')) → PE (lamCx X A ou s H E scope f c') body (tb E))
    (hN : Ng[i]? = some a) (hv : Vis sg a) (hd : (a == ("__debug__" : Str)) = false)
    (hcd : (a == ("__classdict__" : Str)) = false) :
    PE ((cxOf CXg X.prog X.w X.K X.mg X.base Ng qg sg g cdg X.A X.stack s H Eg).tr pn xe)
      (.Call (.Name a p1) [] [] p2)
      (fun σz Hz Q => σz[i]? = some (some (.ref f)) ∧ Hz c' = some (CodeO c' (X.env.qual ++ "<lambda>")) ∧
        tb (WE W σz) σ Hz Q) := by
  refine ⟨fun pz sz σz Hz Q Iz h => ?_⟩
  obtain ⟨h0, hc, ht⟩ := h
  have rd := (pe_var (pos := p1) (i := i) hN hv hd hcd).run pz sz σz Hz
    (fun v J => v = .ref f ∧ J = Hz) Iz ⟨.ref f, h0, rfl, rfl⟩
  refine wpAny_Call_Name_kw (thn rd fun u s1 ⟨v, J, I1, r1, ev, eJ⟩ => ?_)
  subst ev eJ
  obtain rfl : u = Value.ref f := r1
  have un : Un (frs X.stack) [] H J s.heap s1.heap := I1.base
  have at1 := I1.base.keep f _ hf hn hfr (fun z => nomatch (show f ∈ ([] : List Addr) from z))
  refine PySem.W.callWith_F0 ⟨_, _, _, _, at1⟩ ?_
  obtain ⟨⟨oc, vs, t, o1, o2, o3⟩, _, _⟩ := I1.hok c' _ hc
  have run : codeAny (model X.prog X.w) (X.A.deeper (envOfC qg sg s.heap.objs.size g cdg)) (.call (.ref f) ⟨[], []⟩)
      (CR (L2.CX X.prog X.w) (envOfC qg sg s.heap.objs.size g cdg :: X.stack) X.prog X.w J s1 Q (WE W σz)) s1 := by
    refine PySem.W.kla_callFunE hr.depth at1 rfl L.co L.gen rfl ⟨c', oc, vs, t, rfl, o1, o2, o3⟩ ?_
    rw [hbind]
    refine wpAny_pure (wpAny_newFunctionEnv (fun y hy => (L.own y hy).2)
      (fun y hy => absurd hy (by simp)) (fun h1 ns sb => ⟨I1.nolimit.fresh _ sb, ?_⟩) L.kind)
    show codeAny _ _ (.expr body (lamEnv X scope s1.heap.objs.size f c')) _ _
    have kp : ∀ b o, s1.heap.get? b = some o → h1.get? b = some o := by
      intro b o e
      exact sb.extBut b o (Nat.ne_of_lt (Heap.lt_size e)) (Heap.get?_push_of_some _ e)
    have J2 := lam_start2 (A := X.A.deeper (envOfC qg sg s.heap.objs.size g cdg)) (E := WE W σz) (f := f) (c' := c')
      (tk := s1.toks + ([] : List (Str × Value)).length) I L I1.env0 hr.hd un ns kp
    refine PySem.W.kla_codeExpr (wpAny_mono ((hbody (WE W σz) (X.A.deeper (envOfC qg sg s.heap.objs.size g cdg)) _ s1 J rfl (hr.deeper _)).run [] _ _ J Q J2 ht)
      (fun v s' hq => ?_) fun e s' hq => hq)
    obtain ⟨w', H', J', rv, q⟩ := hq
    exact ⟨w', H', J'.os, J'.bare, J'.base, J'.hok, rv, q⟩
  refine wpAny_call (codeAny_mono run fun r s' hq => ?_)
  cases r with
  | error e => exact passAt tk σz pz J s1 e s' I1 hq
  | ok fl =>
    cases fl with
    | ret u => exact I1.after hq
    | next => exact hq.elim
    | brk => exact hq.elim
    | cont => exact hq.elim
end
/-- the def that calls what it got, told of the slots at that moment -/
def GivesS (X : Cx) (Ng : List Str) (x : Str) (sg : Scope) (g : Addr) (cdg : Value) (bg : List Stmt) (a : Str) (q : Str)
    (TT : (XK → Hp → VK → Prop) → Hp → VK → Prop) : Prop :=
  ∀ (f c' : Addr) (s : Shared) (H : Hp) (Q : VK) (tl : XK → Hp → VK → Prop),
    (∀ (W : WX) (pn : List (Addr × Obj)) (xe : Value → Shared → Prop) (p1 p2 : Pos),
      Takes ((cxOf CX0 X.prog X.w X.K X.mg X.base Ng x sg g cdg X.A X.stack s H E0).tr pn xe) W →
      PE ((cxOf CX0 X.prog X.w X.K X.mg X.base Ng x sg g cdg X.A X.stack s H E0).tr pn xe)
        (.Call (.Name a p1) [] [] p2)
        (fun σz Hz Q => σz[0]? = some (some (.ref f)) ∧ Hz c' = some (CodeO c' q) ∧ tl (WE W σz) Hz Q)) →
    H c' = some (CodeO c' q) → TT tl H Q →
    ∃ t, PSs (cxOf CX0 X.prog X.w X.K X.mg X.base Ng x sg g cdg X.A X.stack s H E0).nox bg t ∧
      t { nx := fun _ H' => Q .non H', rt := Q } (L2.start Ng [.ref f]) H
section
variable {X : Cx}
/-- x(lambda: body) -/
theorem pe_lamS {T : List (Addr × Str)} {TT : (XK → Hp → VK → Prop) → Hp → VK → Prop} {x a : Str} {g c P : Addr} {k : Nat}
    {pg : Arguments} {bg : List Stmt} {sg : Scope} {dV kV doc pm cdv ct oc : Value} {an od : Option Addr}
    {osl : Array (Option Value)} {Ng : List Str} {params : Arguments} {body : Expr} {scope : Scope} {t : XK → TE}
    {p lpos pos : Pos} (hg : Gl X x) (hm : X.mg x = some (.ref g)) (hk : PySem.W.keepIn X.K (.ref g) = true)
    (lk : X.K.lookup g = some ⟨oc, od, .func (PySem.W.fnOf x x pg bg sg dV kV doc pm an cdv ct), osl⟩)
    (hcg : PySem.W.codeIn X.K cdv x = true)
    (hb : L2.Binds X.K (PySem.W.fnOf x x pg bg sg dV kV doc pm an cdv ct) [a] []) (Sg : FnScope Ng [a] sg)
    (hNg : Ng[0]? = some a) (hva : Vis sg a)
    (hG : GivesS X Ng x sg g cdv bg a (X.env.qual ++ "<lambda>") TT)
    (TB : TabB X.base X.mg c P) (hcode : X.env.code = .ref c) (hmT : (P, X.env.qual ++ "<lambda>") ∈ T)
    (hu : ∀ p ∈ T, p.1 = P → p.2 = X.env.qual ++ "<lambda>") (hr : Room (k + 2) X.A)
    (L : LamS X.env.scope scope) (hdef : defaultsOf params X.env = ([], []))
    (hbind : ∀ (q : Str) (cl : List (Str × Addr)) (pm cv ctv : Value),
      bindArgs (PySem.W.kla_fn "<lambda>" q params body scope cl pm cv ctv) ⟨[], []⟩ = pure [])
    (hbody : ∀ (A : Around) (ou : List Env) (s : Shared) (H : Hp) (E : XK) (f c' : Addr), A.guards = X.A.guards →
      Room k (A.deeper (lamEnv X scope s.heap.objs.size f c')) → PE (lamCx X A ou s H E scope f c') body (t E))
    (n1 : (x == ("__debug__" : Str)) = false := by decide) (n2 : (a == ("__debug__" : Str)) = false := by decide)
    (n3 : (a == ("__classdict__" : Str)) = false := by decide) :
    PE X (.Call (.Name x p) [.Lambda params body scope lpos] [] pos) (tLam T TT t) := by
  refine ⟨fun pins s σ H Q I h => ?_⟩
  obtain ⟨hT, h⟩ := h
  refine wpAny_Call_Name_kw (ld_glob I hg hm ?_ n1)
  refine PySem.W.callWith_K (h₀ := X.base) I.ok.mod.kin hk ?_ (by rfl) (by rfl)
  show wpAny _ _ (spliced ((false, eval (.Lambda params body scope lpos) X.env) ::
    backTo pos (starEach [] X.env))) _ _ s
  refine Calls.spliced_cons (lam_make2 I TB hcode hmT hu hT hdef (L.has I.ok) ?_)
  intro f c' pm' ctv H1 s' I1 eN T1 hf hfn hfr hco
  refine Calls.spliced_nil ⟨I1.kIn, ?_⟩
  have run : codeAny (model X.prog X.w) X.A (.call (.ref g) ⟨[.ref f], []⟩)
      (CR CX0 X.stack X.prog X.w H1 s' Q E0) s' := by
    refine run_ofS (N := Ng) (ps := [a]) (us := [.ref f]) (vs := [.ref f]) lk hcg Sg hr I1.env0
      (hb s' [.ref f] I1.kIn rfl) (.cons rfl .nil) rfl fun hr' => ?_
    obtain ⟨t', ht', hq'⟩ := hG f c' s' H1 Q (fun E H' Q' => t E σ H' Q') (fun W pn xe p1 p2 tk =>
      pe_actS (i := 0) I1 L hf hfn hfr (hbind _ _ _ _ _) tk hr'
        (fun E A ou s H gA hr2 => hbody A ou s H E f c' gA hr2) hNg hva n2 n3) hco (h H1 eN T1)
    exact ⟨t', ht'.nox, hq'⟩
  refine wpAny_call (codeAny_mono run fun r s2 hq => ?_)
  cases r with
  | error e => exact (show False from hq).elim
  | ok fl =>
    cases fl with
    | ret u => exact I1.after hq
    | next => exact hq.elim
    | brk => exact hq.elim
    | cont => exact hq.elim
end
end G
/-! Statements in a row, joined by an own invariant. -/
namespace G
open PySem PySem.Spec PyProof.Rows L2
/-- st, then the rest: I is what holds in between -/
def tCut (t u : TS) : TS := fun D σ H => ∃ I : L2.St → Hp → Prop, (∀ σ J, I σ J → u D σ J) ∧ t { D with nx := I } σ H
theorem pss_cut {X : Cx} {st : Stmt} {rest : List Stmt} {t u : TS} (h1 : PS X st t) (h2 : PSs X rest u) :
    PSs X (st :: rest) (tCut t u) := by
  refine ⟨fun pins s σ H D J h => ?_⟩
  obtain ⟨I, go, h⟩ := h
  refine wpAny_execs_cons (thn (h1.run pins s σ H { D with nx := I } J h) fun fl s1 q => ?_)
  cases fl with
  | ret v => exact q
  | brk => exact q
  | cont => exact q
  | next =>
    obtain ⟨σ2, H2, J2, i2⟩ := q
    exact h2.run pins s1 σ2 H2 D J2 (go σ2 H2 i2)
end G
set_option maxHeartbeats 2000000
/-! Errors of the program's own over any built-in class: their fields stored, made as values, raised, read, asked for their class. -/
namespace G
open PySem PySem.Spec PyProof.Rows PySem.Calls PySem.W L2

/-- what is known of a built-in class of errors -/
structure BaseX (B nw ini : String) (bm : List Value) : Prop where
  f : ExcBaseFacts B nw ini bm
  s : StoreFacts B bm "object.__setattr__" "object"
theorem bx_value : BaseX "ValueError" "ValueError.__new__" "ValueError.__init__" [.type "ValueError", .type "Exception", .type "BaseException", .type "object"] := ⟨F.excBase_ValueError, F.store_ValueError⟩
theorem bx_lookup : BaseX "LookupError" "LookupError.__new__" "LookupError.__init__" [.type "LookupError", .type "Exception", .type "BaseException", .type "object"] := ⟨F.excBase_LookupError, F.store_LookupError⟩
theorem bx_runtime : BaseX "RuntimeError" "RuntimeError.__new__" "RuntimeError.__init__" [.type "RuntimeError", .type "Exception", .type "BaseException", .type "object"] := ⟨F.excBase_RuntimeError, F.store_RuntimeError⟩
theorem bx_arith : BaseX "ArithmeticError" "ArithmeticError.__new__" "ArithmeticError.__init__" [.type "ArithmeticError", .type "Exception", .type "BaseException", .type "object"] := ⟨F.excBase_ArithmeticError, F.store_ArithmeticError⟩
/-- what is known of an own class over it -/
structure OexG (K : Frag) (C : Addr) : Prop where
  base : ∃ B nw ini bm, BaseX B nw ini bm ∧ excInitIn K C bm nw = true ∧ excOver K C bm = true
  sa : findIn K (.ref C) "__setattr__" = some (some (.builtin "object.__setattr__"))
  ex : subIn K (.ref C) (.type "BaseException") = some true
  ty : typeIn K (.ref C) = some (.type "type")
  kp : keepIn K (.ref C) = true
  hd : hasDictIn K C = true

section
open Builtin Builtin.ObjectAttr
variable {prog : Program} {w : World} {A : Around} {R : Result → Shared → Prop} {hp : Heap} {g : Array GenState} {d : Drawn} {t : Nat} {os : OsState}
  {K : Frag} {name : Str} {tk : Tok} {v : Value} {x C : Addr} {fv : Array Value} {B : String} {bm : List Value}
/-- the first field -/
theorem osaN (SF : StoreFacts B bm "object.__setattr__" "object") (inK : K.In hp) (hx : hp.get? x = some { cls := .ref C, data := .fields fv }) (ov : excOver K C bm = true) (hd : hasDictIn K C = true)
    (no : findIn K (.ref C) name = some none)
    (go : ∀ h' tk' dx, (∀ b o, b ≠ x → hp.get? b = some o → h'.get? b = some o) → hp.objs.size ≤ dx → dx ≠ x →
      h'.get? x = some { cls := .ref C, dict := some dx, data := .fields fv } → h'.Ns1 dx (fun y => if y = name then some v else none) → R (.ok (.ret .none)) ⟨h', g, d, tk', os⟩) :
    codeAny (model prog w) A (.call (.builtin "object.__setattr__") ⟨[.ref x, .str name tk, v], []⟩) R ⟨hp, g, d, t, os⟩ := by
  refine osa_openX (s := ⟨hp, g, d, t, os⟩) (ox := { cls := .ref C, data := .fields fv }) (od := none) (r := none) SF inK ⟨hx, rfl, rfl, trivial⟩ ov (by unfold takerIn; rw [no]; rfl) fun b => ?_
  obtain ⟨cd, hc, hh⟩ := any_some hd
  have lk : Looks (model prog w) hp (classData C) cd := looks_clsIn inK hc
  have far : x ≠ hp.objs.size := Nat.ne_of_lt (Heap.lt_size hx)
  obtain ⟨a1, a2, a3, a4, a5, a6, a7, a8, a9, a10, a11⟩ := cd
  dsimp only at hh
  subst hh
  show wpAny _ _ (storeInOwnDict (.ref x) (.ref C) (.str name tk) name v b) _ _ _
  unfold storeInOwnDict ownDictForStores
  repeat (first | with_reducible refine HandSPX.store_in_new ?_ ?_ | with_reducible refine wpAny_loadPart_at hx ?_ | with_reducible refine lk.at ?_ | wp_step)
  · exact ⟨_, #[], _, (Heap.get?_update_ne _ _ _ _ far.symm).trans (Heap.get?_push_at rfl rfl), rfl, (fun e he => absurd he (by simp)), fun _ => rfl⟩
  · intro h' tk' hn sm
    have at1 : (hp.push { cls := .type "dict", data := .dict #[] }).get? x = some { cls := .ref C, data := .fields fv } := Heap.get?_push_of_some _ hx
    refine go h' tk' hp.objs.size (fun b o nb ho => ?_) (Nat.le_refl _) far.symm ?_ hn
    · rw [sm.2 b (Nat.ne_of_lt (Heap.lt_size ho)), Heap.get?_update_ne _ _ _ _ nb]
      exact Heap.get?_push_of_some _ ho
    · rw [sm.2 x far]
      exact Heap.get?_update_self _ at1 rfl
/-- a further field -/
theorem osaO {dx : Addr} {m0 : Str → Option Value} {nl : List Str} (SF : StoreFacts B bm "object.__setattr__" "object") (inK : K.In hp)
    (hx : hp.get? x = some { cls := .ref C, dict := some dx, data := .fields fv }) (hns : hp.Ns1 dx m0) (hw : Within m0 nl) (hz : nl.length ≤ 1000) (ov : excOver K C bm = true) (hd : hasDictIn K C = true)
    (no : findIn K (.ref C) name = some none)
    (go : ∀ h' tk', (∀ b o, b ≠ dx → hp.get? b = some o → h'.get? b = some o) → h'.Ns1 dx (fun y => if y = name then some v else m0 y) → R (.ok (.ret .none)) ⟨h', g, d, tk', os⟩) :
    codeAny (model prog w) A (.call (.builtin "object.__setattr__") ⟨[.ref x, .str name tk, v], []⟩) R ⟨hp, g, d, t, os⟩ := by
  obtain ⟨oD, esD, epD, hoD, hdD, _⟩ := hns.count hw
  refine osa_openX (s := ⟨hp, g, d, t, os⟩) (ox := { cls := .ref C, dict := some dx, data := .fields fv }) (od := some oD) (r := none) SF inK ⟨hx, rfl, rfl, hoD⟩ ov (by unfold takerIn; rw [no]; rfl) fun b => ?_
  obtain ⟨cd, hc, hh⟩ := any_some hd
  have lk : Looks (model prog w) hp (classData C) cd := looks_clsIn inK hc
  obtain ⟨a1, a2, a3, a4, a5, a6, a7, a8, a9, a10, a11⟩ := cd
  dsimp only at hh
  subst hh
  show wpAny _ _ (storeInOwnDict (.ref x) (.ref C) (.str name tk) name v b) _ _ _
  unfold storeInOwnDict ownDictForStores
  repeat (first | with_reducible refine OEX.store_in_old hns hw hz ?_ | with_reducible refine wpAny_loadPart_at hx ?_ | with_reducible refine lk.at ?_ | wp_step)
  intro h' tk' hn sm
  refine go h' tk' (fun b o nb ho => ?_) hn
  rw [sm.2 b nb]
  exact ho
end

section
variable {X : Cx} {pins : List (Addr × Obj)} {σ : L2.St} {H : Hp} {s : Shared} {a C dx : Addr} {f : Str} {y : V} {u : Value} {fs : List (Str × V)} {A : Around}
/-- an error gets its dict -/
theorem inv_dict {h' : Heap} {t' : Nat} (I : Inv X pins σ H s) (e : H a = some (exo a C none)) (dn : s.heap.objs.size ≤ dx)
    (k : ∀ b o, b ≠ a → s.heap.get? b = some o → h'.get? b = some o) (h1 : ∀ J, ObjOk X.prog X.w J h' a (exo a C (some dx))) (h2 : ∀ J, ObjOk X.prog X.w J h' dx (exd dx fs)) (h3 : ∃ o, h'.get? a = some o) :
    Inv X pins σ (upd (upd H dx (exd dx fs)) a (exo a C (some dx))) { s with heap := h', toks := t' } := by
  have free : H dx = none := I.hok.fresh dn
  have low : ∀ {b : Addr} {o : Obj}, s.heap.get? b = some o → b ≠ dx := fun q => Nat.ne_of_lt (Nat.lt_of_lt_of_le (Heap.lt_size q) dn)
  have off : ∀ {b : Addr}, H b = none → b ≠ a := fun n z => by
    rw [z, e] at n
    cases n
  refine I.un ⟨fun b o q n _ _ => k b o (off n) q, fun b o q n _ _ => ⟨o.slots, k b o (off n) q⟩, fun b o q n _ => ?_, fun b o q _ => ?_, fun b xs q => ?_, fun b o v q => ?_, fun b ps q => ⟨#[], ?_⟩⟩ fun b o q => ?_
  · rw [upd_ne (off n), upd_ne (low q)]
    exact n
  · by_cases z : b = a
    · rw [z]
      exact h3
    · exact ⟨o, k b o z q⟩
  · rw [upd_ne (at_ne e q exo_tup), upd_ne (ne_of_none q free)]
    exact q
  · rw [upd_ne (at_ne e q exo_frz), upd_ne (ne_of_none q free)]
    exact q
  · rw [upd_ne (at_ne e q exo_tbl), upd_ne (ne_of_none q free), q]
    simp
  · by_cases z : b = a
    · rw [z, upd_same] at q
      cases q
      rw [z]
      exact h1 _
    · rw [upd_ne z] at q
      by_cases zd : b = dx
      · rw [zd, upd_same] at q
        cases q
        rw [zd]
        exact h2 _
      · rw [upd_ne zd] at q
        refine (I.hok b o q).stay (fun c v hc y => k c v ?_ y) (fun c hc => ?_) (fun c xs hc => ?_)
        · rcases hc with hc | hc
          · rw [hc]
            exact z
          · exact at_ne e hc exo_own
        · rw [upd_ne (at_ne e hc exo_own), upd_ne (ne_of_none hc free)]
          exact hc
        · rw [upd_ne (at_ne e hc exo_tup), upd_ne (ne_of_none hc free)]
          exact hc
theorem ostN {Q : Unit → Shared → Prop} {E : Value → Shared → Prop} (T : OexG X.K C) (I : Inv X pins σ H s) (e : H a = some (exo a C none)) (no : findIn X.K (.ref C) f = some none) (ry : RelV y u)
    (h : ∀ dx s', H dx = none → dx ≠ a → Inv X pins σ (upd (upd H dx (exd dx [(f, y)])) a (exo a C (some dx))) s' → Q () s') : wpAny (model X.prog X.w) A (setAttr (.ref a) f u) Q E s := by
  obtain ⟨B, nw, ini, bm, bx, _, ov⟩ := T.base
  obtain ⟨t1, ho⟩ := exo_at I.hok e
  have J := I
  obtain ⟨hp, g, d, t, os⟩ := s
  refine set_plain I.kIn (ox := { cls := .ref C, dict := none, data := .fields #[.ref t1, .none, .none, .none, .bool false, .none] }) (od := none) ⟨ho, rfl, rfl, trivial⟩ T.sa ?_
  refine osaN bx.s I.kIn ho ov T.hd no fun h' tk' dx k dn ne hx hn => ?_
  exact h dx _ (I.hok.fresh dn) ne (inv_dict (t' := tk') J e dn k (fun _ => exo_ok hx) (fun _ => exd_ok hn (relO_put (fs := []) ry fun _ => True.intro)) ⟨_, hx⟩)
theorem ostO {Q : Unit → Shared → Prop} {E : Value → Shared → Prop} (T : OexG X.K C) (I : Inv X pins σ H s) (e : H a = some (exo a C (some dx))) (ed : H dx = some (exd dx fs)) (hl : fs.length ≤ 900) (no : findIn X.K (.ref C) f = some none) (ry : RelV y u)
    (h : ∀ s', Inv X pins σ (upd H dx (exd dx ((f, y) :: fs))) s' → Q () s') : wpAny (model X.prog X.w) A (setAttr (.ref a) f u) Q E s := by
  obtain ⟨B, nw, ini, bm, bx, _, ov⟩ := T.base
  obtain ⟨t1, ho⟩ := exo_at I.hok e
  obtain ⟨mA, hns, rel⟩ := exd_at I.hok ed
  have hw := within_of rel
  have J := I
  obtain ⟨hp, g, d, t, os⟩ := s
  obtain ⟨oD, _, _, hoD, _, _⟩ := hns.count hw
  refine set_plain I.kIn (ox := { cls := .ref C, dict := some dx, data := .fields #[.ref t1, .none, .none, .none, .bool false, .none] }) (od := some oD) ⟨ho, rfl, rfl, hoD⟩ T.sa ?_
  refine osaO bx.s I.kIn ho hns hw (by rw [List.length_map]; omega) ov T.hd no fun h' tk' k hn => ?_
  have there : ∃ o, h'.get? dx = some o := by
    obtain ⟨o, _, _, q, _⟩ := hn
    exact ⟨o, q⟩
  exact h _ (J.write (t' := tk') (x := dx) (e := dx) (o := exd dx ((f, y) :: fs)) (by rw [ed]; exact True.intro) (.inl rfl) k there (exd_ok hn (relO_put ry rel)))
end

section
variable {X : Cx} {o e : Expr} {es : List Expr} {to te : TE} {ta : TA} {f : Str} {p p' pos : Pos}
/-- self.f = e in such a class -/
def tOstG (K : Frag) (f : Str) (to te : TE) : TS := fun D σ H => te σ H fun y H1 => to σ H1 fun x H2 => ∃ a C : Addr, x = .ref a ∧ OexG K C ∧ findIn K (.ref C) f = some none ∧
  ((H2 a = some (exo a C none) ∧ ∀ dx, H2 dx = none → dx ≠ a → D.nx σ (upd (upd H2 dx (exd dx [(f, y)])) a (exo a C (some dx)))) ∨
    ∃ (dx : Addr) (fs : List (Str × V)), H2 a = some (exo a C (some dx)) ∧ H2 dx = some (exd dx fs) ∧ fs.length ≤ 900 ∧ D.nx σ (upd H2 dx (exd dx ((f, y) :: fs))))
theorem ps_ostG (ho : PE X o to) (he : PE X e te) (hs : swapsWith e (some (.Attribute o f p')) pos.line X.env = pure false := by rfl) :
    PS X (.Assign [.Attribute o f p'] e pos) (tOstG X.K f to te) := by
  refine ⟨fun pins s σ H D I h => ?_⟩
  refine plainObj_wpAny_Assign_Attribute (thn (he.run pins s σ H _ I h) fun v s1 z1 => ?_) hs
  obtain ⟨y, H1, I1, r1, q1⟩ := z1
  refine thn (ho.run pins s1 σ H1 _ I1 q1) fun u s2 z2 => ?_
  obtain ⟨x, H2, I2, r2, a, C, ex, T, no, q⟩ := z2
  subst ex
  obtain rfl : u = Value.ref a := r2
  rcases q with ⟨ea, q⟩ | ⟨dx, fs, ea, ed, hl, q⟩
  · exact ostN T I2 ea no r1 fun dx s' n ne J => ⟨σ, _, J, q dx n ne⟩
  · exact ostO T I2 ea ed hl no r1 fun s' J => ⟨σ, _, J, q⟩
/-- C(e, ..) as a value, C's own __init__ keeping sp -/
def tMkV (R : List V → Hp → VK → Prop) (ta : TA) : TE := fun σ H Q => ta σ H fun vs H1 => R vs H1 Q
theorem pe_mkV {x : Str} {C fI : Addr} {k : Nat} {fd : FuncData} {ps : List Str} {sp : Sp} {R : List V → Hp → VK → Prop}
    (hR : ∀ vs H1 Q, R vs H1 Q → vs.length ≤ 1000 ∧ ∀ a, H1 a = none → sp (.ref a :: vs) (upd H1 a (exo a C none)) (fun v H2 => v = .non ∧ Q (.ref a) H2) (fun _ _ _ => False))
    (T : OexG X.K C) (iC : findIn X.K (.ref C) "__init__" = some (some (.ref fI)))
    (tI : typeIn X.K (.ref fI) = some (.type "function")) (F1 : FnOk X.prog X.w X.K X.mg X.base CX0 k fI fd ps sp) (hr : Room (k + 1) X.A) (hb : Binds X.K fd ps [])
    (hg : Gl X x) (hm : X.mg x = some (.ref C)) (ha : PA X (e :: es) ta)
    (n1 : (x == ("__debug__" : Str)) = false := by decide) (n2 : starEach (e :: es) X.env = (false, eval e X.env) :: starEach es X.env := by rfl)
    (n3 : (backTo pos (starEach es X.env)).any (·.1) = false := by rfl) :
    PE X (.Call (.Name x p) (e :: es) [] pos) (tMkV R ta) := by
  refine ⟨fun pins s σ H Q I h => ?_⟩
  obtain ⟨B, nw, ini, bm, bx, qi, _⟩ := T.base
  refine wpAny_Call_Name_kw (ld_glob I hg hm ?_ n1)
  refine callWith_K (h₀ := X.base) I.ok.mod.kin T.kp (thn (ha.run pos pins s σ H _ I h) fun us s1 z1 => ?_) n2 n3
  obtain ⟨vs, H1, I1, r1, rr⟩ := z1
  obtain ⟨hz, q1⟩ := hR _ _ _ rr
  refine ⟨I1.kIn, ?_⟩
  obtain ⟨nm, N, qn, bs, bmC, hdct, sn, sub, ab, col, dd, k0, k1, k2, k3, k5, hC, hT⟩ := excInit_of I1.kIn qi
  show wpAny _ _ (call (.ref C) us) _ _ _
  obtain ⟨hp, g, dr, tk, os⟩ := s1
  generalize hA : hp.objs.size + 1 = a
  have big : hp.objs.size ≤ a := by omega
  have hq := q1 a (I1.hok.fresh big)
  have keep : ∀ b o, hp.get? b = some o → ((hp.push (kdv_tup us)).push (HandSPX.excO C hp.objs.size)).get? b = some o := fun b o q => Heap.get?_push_of_some _ (Heap.get?_push_of_some _ q)
  have now : ((hp.push (kdv_tup us)).push (HandSPX.excO C hp.objs.size)).get? a = some (HandSPX.excO C hp.objs.size) := by
    rw [← hA]
    heap_get
  have I2 : Inv X pins σ (upd H1 a (exo a C none)) ⟨(hp.push (kdv_tup us)).push (HandSPX.excO C hp.objs.size), g, dr, tk, os⟩ :=
    I1.laid (t' := tk) (a := a) (o := exo a C none) (h' := (hp.push (kdv_tup us)).push (HandSPX.excO C hp.objs.size)) keep big (exo_ok now)
  have r2 : Vals (V.ref a :: vs) (Value.ref a :: us) := .cons rfl r1
  have hl : (Value.ref a :: us).length = ps.length := by
    rw [← r2.length]
    exact F1.len _ _ _ _ hq
  have hus : us.length ≤ sizeLine := by
    rw [← r1.length, sizeLine_eq]
    omega
  have bd : BindsTo ⟨(hp.push (kdv_tup us)).push (HandSPX.excO C hp.objs.size), g, dr, tk, os⟩ fd ⟨Value.ref a :: us, []⟩ (ps.zip (Value.ref a :: us)) := by
    have := hb ⟨(hp.push (kdv_tup us)).push (HandSPX.excO C hp.objs.size), g, dr, tk, os⟩ (Value.ref a :: us) I2.kIn (by simpa using hl)
    simpa using this
  refine wpAny_call (HandSPX.call_own bx.f hT hC (looks_findIn I1.kIn iC) (fun self => bind_fn I1.kIn self tI) hus ?_)
  rw [hA]
  refine codeAny_mono (F1.run _ X.stack _ _ ⟨Value.ref a :: us, []⟩ (Value.ref a :: us) _ _ (fun _ _ _ => False) (hr.make C us []) (I2.env0.make C us []) bd r2 hq) fun r s' z => ?_
  cases r with
  | error er => exact False.elim z
  | ok fl =>
    cases fl with
    | ret u =>
      obtain ⟨v, H2, os2, bare2, un2, hok2, rv, ev, q2⟩ := z
      subst ev
      exact ⟨rv, .ref a, H2, I2.call' (ch := []) os2 un2 hok2 bare2 (fun b z => absurd z (by simp)), rfl, q2⟩
    | next => exact False.elim z
    | brk => exact False.elim z
    | cont => exact False.elim z
end
end G
set_option maxHeartbeats 2000000
/-! Own errors made by keywords. -/
namespace G
open PySem PySem.Spec PyProof.Rows PySem.Calls PySem.W L2 HandSPX
section
variable {M : Model} {prog : Program} {w : World} {A : Around} {E : Value → Shared → Prop} {R : Result → Shared → Prop} {h : Heap} {g : Array GenState} {d : Drawn} {t : Nat} {os : OsState}
  {nm q : Str} {C N : Addr} {bs bm bmB : List Value} {hdct : Bool} {sn : List Str} {sub : List Value} {ab : Bool} {col : Option Bool} {dd : Option Addr} {k0 k1 k2 k3 k5 : Option Value} {B nw ini : String} {kw : List (Str × Value)}
theorem chk_newK (F : ExcBaseFacts B nw ini bmB) (hT : ∀ X : String, bm.contains (.type X) = bmB.contains (.type X)) {Q : Unit → Shared → Prop}
    (hC : h.get? C = some (excClassObj nm q C N bs bm hdct sn sub ab col dd k0 k1 k2 k3 k5 nw)) (hq : Q () ⟨h, g, d, t, os⟩) :
    wpAny M A (checkBuiltinCall nw ⟨[.ref C], kw⟩) Q E ⟨h, g, d, t, os⟩ := by
  have has : (Value.ref C :: bm).contains (.type B) = true := by rw [List.contains_cons, hT, F.hasB, Bool.or_true]
  have st := F.noStar
  simp only [checkBuiltinCall, F.newKind, F.newSplit, F.newRow]
  repeat (first | refine wpAny_loadPart_at hC ?_ | (refine wpAny_isSubtype_exc hC ?_; rw [has]) | refine wpAny_staticBase_exc hC ?_ | refine wpAny_madeBy_exc hC ?_ | simp only [bne_self_eq_false, Bool.false_eq_true, if_false] | wp_step)
  exact hq
theorem newK (F : ExcBaseFacts B nw ini bmB) (hT : ∀ X : String, bm.contains (.type X) = bmB.contains (.type X))
    (hC : h.get? C = some (excClassObj nm q C N bs bm hdct sn sub ab col dd k0 k1 k2 k3 k5 nw))
    (hq : R (.ok (.ret (.ref (h.objs.size + 1)))) ⟨(h.push (kdv_tup [])).push (excO C h.objs.size), g, d, t, os⟩) :
    codeAny (model prog w) A (.builtin nw ⟨[.ref C], kw⟩) R ⟨h, g, d, t, os⟩ := by
  have ends := F.ends
  have c1 : (Value.ref C :: bm).contains (.type B) = true := by rw [List.contains_cons, hT, F.hasB, Bool.or_true]
  have c2 : (Value.ref C :: bm).contains (.type "AttributeError") = false := by rw [List.contains_cons, hT, F.noAttr]; rfl
  have c3 : (Value.ref C :: bm).contains (.type "NameError") = false := by rw [List.contains_cons, hT, F.noName]; rfl
  have rest0 : ([] : List Value).length ≤ sizeLine := Nat.zero_le _
  refine codeAny_builtinAt F.entry ?_
  unfold Builtin.«BaseException.__new__»
  refine PySem.wpAt_bind ?_
  show PySem.wpAt _ _ _ (stack >>= _) _ _ _
  refine PySem.wpAt_bind (PySem.wpAt_stack fun p below => PySem.wpAt_of_wpAny ?_)
  wp_walk
  refine PySem.wpAt_of_wpAny ?_
  rw [F.owner]
  repeat (first | with_reducible refine wpAny_madeHere_exc F.canon hC ?_ | with_reducible refine wpAny_loadPart_at hC ?_ | (with_reducible refine wpAny_isSubtype_exc hC ?_; first | rw [c1] | rw [c2] | rw [c3]) | wp_step)
  show R _ _
  rw [Heap.size_push]
  exact hq
theorem type_callK (F : ExcBaseFacts B nw ini bmB) (hT : ∀ X : String, bm.contains (.type X) = bmB.contains (.type X)) {fI : Addr} {Q : Fin → Shared → Prop}
    (hC : h.get? C = some (excClassObj nm q C N bs bm hdct sn sub ab col dd k0 k1 k2 k3 k5 nw))
    (hi : Looks (model prog w) h (typeLookup (.ref C) "__init__") (some (.ref fI))) (hb : ∀ self, Looks (model prog w) h (bindSpecial (.ref fI) self) (.ref fI, [self]))
    (hq : codeAny (model prog w) A (.call (.ref fI) ⟨[.ref (h.objs.size + 1)], kw⟩)
      (fun r s' => match r with | .ok (.ret v) => v = .none ∧ Q (.done (.ret (.ref (h.objs.size + 1)))) s' | .ok _ => False | .error e => E e s')
      ⟨(h.push (kdv_tup [])).push (excO C h.objs.size), g, d, t, os⟩) :
    wpAny (model prog w) A (Builtin.«type.__call__» ⟨[.ref C], kw⟩) Q E ⟨h, g, d, t, os⟩ := by
  repeat (first | with_reducible refine wpAny_loadPart_at hC ?_ | with_reducible refine wpAny_madeBy_exc hC ?_ | wp_step)
  refine codeAny_call_builtin_code (Code.quiet_builtin _ F.quiet) (chk_newK F hT hC ?_)
  refine newK F hT hC ?_
  show wpAny _ _ _ _ _ _
  have keep : ∀ b o, h.get? b = some o → ((h.push (kdv_tup [])).push (excO C h.objs.size)).get? b = some o := fun b o z => Heap.get?_push_of_some _ (Heap.get?_push_of_some _ z)
  have hC1 := keep _ _ hC
  have now : ((h.push (kdv_tup [])).push (excO C h.objs.size)).get? (h.objs.size + 1) = some (excO C h.objs.size) := by heap_get
  have self : (Value.ref C :: bm).contains (.ref C) = true := by simp
  have i1 := hi.keeps keep
  have b1 := (hb (.ref (h.objs.size + 1))).keeps keep
  unfold isInstance
  repeat (first | with_reducible refine wpAny_loadPart_at now ?_ | (with_reducible refine wpAny_isSubtype_exc hC1 ?_; rw [self]) | wp_step)
  show wpAny _ _ (typeLookup (.ref C) _) _ _ _
  refine i1.at ?_
  refine wpAny_holding (wpAny_bind (b1.at ?_))
  refine wpAny_bind (wpAny_call (codeAny_mono hq fun r s' z => ?_))
  rcases r with e | (v | _ | _ | _) <;> first | exact z | exact z.elim | skip
  obtain ⟨rfl, z⟩ := z
  first
    | exact wpAny_pure (wpAny_pure z)
    | (wp_walk; exact z)
theorem chk_typeK {Q : Unit → Shared → Prop} (hC : h.get? C = some (excClassObj nm q C N bs bm hdct sn sub ab col dd k0 k1 k2 k3 k5 nw))
    (hq : Q () ⟨h, g, d, t, os⟩) : wpAny M A (checkBuiltinCall "type.__call__" ⟨[.ref C], kw⟩) Q E ⟨h, g, d, t, os⟩ := by
  have f3 := tc_sub
  have ty : (⟨h, g, d, t, os⟩ : Shared).TypeIs (.ref C) "type" := ⟨_, hC, rfl⟩
  simp only [checkBuiltinCall, tc_kind, tc_split]
  repeat (any_goals (first | assumption | with_reducible refine wpAny_loadPart_at hC ?_ | with_reducible refine wpAny_onRaise ?_ | with_reducible refine wpAny_map ?_ | wp_step))
theorem call_ownK (F : ExcBaseFacts B nw ini bmB) (hT : ∀ X : String, bm.contains (.type X) = bmB.contains (.type X)) {fI : Addr}
    (hC : h.get? C = some (excClassObj nm q C N bs bm hdct sn sub ab col dd k0 k1 k2 k3 k5 nw))
    (hi : Looks (model prog w) h (typeLookup (.ref C) "__init__") (some (.ref fI))) (hb : ∀ self, Looks (model prog w) h (bindSpecial (.ref fI) self) (.ref fI, [self]))
    (hq : codeAny (model prog w) (A.under (.builtin "type.__call__" ⟨[.ref C], kw⟩)) (.call (.ref fI) ⟨[.ref (h.objs.size + 1)], kw⟩) (InitBack (h.objs.size + 1) R)
      ⟨(h.push (kdv_tup [])).push (excO C h.objs.size), g, d, t, os⟩) :
    codeAny (model prog w) A (.call (.ref C) ⟨[], kw⟩) R ⟨h, g, d, t, os⟩ := by
  have f1 := tc_lookup
  have f2 := tc_bind (.ref C)
  have ty : (⟨h, g, d, t, os⟩ : Shared).TypeIs (.ref C) "type" := ⟨_, hC, rfl⟩
  refine codeAny_of_tree ?_
  show wpAny _ _ (callAny (.ref C) _) _ _ _
  repeat (any_goals (first | assumption | with_reducible refine wpAny_loadPart_at hC ?_ | wp_step))
  refine ⟨rfl, ?_⟩
  refine codeAny_call_builtin_at (Code.quiet_builtin _ (by decide +kernel)) entry_typeCall (chk_typeK hC (type_callK F hT hC hi hb ?_))
  refine codeAny_mono hq fun r s' z => ?_
  rcases r with e | (v | _ | _ | _) <;> exact z
end
end G
set_option maxHeartbeats 2000000
/-! Own errors as values: made by position and by keywords, their fields read, asked for their class. -/
namespace G
open PySem PySem.Spec PyProof.Rows PySem.Calls PySem.W L2
/-- an error of the class C with its fields -/
def ExAt (H : Hp) (a C d : Addr) (fs : List (Str × V)) : Prop := H a = some (exo a C (some d)) ∧ H d = some (exd d fs)
theorem ExAt.mono {H H' : Hp} {a C d : Addr} {fs : List (Str × V)} (h : ExAt H a C d fs) (s : Same H H') : ExAt H' a C d fs := ⟨s _ _ h.1, s _ _ h.2⟩
/-- an error of the class C, with fields or without -/
def ErrAt (H : Hp) (a C : Addr) : Prop := (∃ d fs, ExAt H a C d fs) ∨ H a = some (ExO (.ref C) a)
theorem ErrAt.mono {H H' : Hp} {a C : Addr} (h : ErrAt H a C) (s : Same H H') : ErrAt H' a C := by
  rcases h with ⟨d, fs, h⟩ | h
  · exact .inl ⟨d, fs, h.mono s⟩
  · exact .inr (s _ _ h)
def spIni2 (C : Addr) (f g : Str) : Sp := fun vs H Q _ => ∃ (a : Addr) (v u : V), vs = [.ref a, v, u] ∧ H a = some (exo a C none) ∧
  ∀ dx, H dx = none → dx ≠ a → Q .non (upd (upd (upd H dx (exd dx [(f, v)])) a (exo a C (some dx))) dx (exd dx [(g, u), (f, v)]))
/-- what is known of a class with one field -/
structure XV1 (P : Program) (w : World) (K : Frag) (mg : Str → Option Value) (bs : Heap) (nm : Str) (C : Addr) (f : Str) : Prop where
  oex : OexG K C
  xf : XfC K C
  exc : ExcC K C
  no : findIn K (.ref C) f = some none
  gC : mg nm = some (.ref C)
  ini : ∃ (fI : Addr) (fd : FuncData), findIn K (.ref C) "__init__" = some (some (.ref fI)) ∧ typeIn K (.ref fI) = some (.type "function") ∧
    FnOk P w K mg bs CX0 1 fI fd ["self", f] (spIni C f) ∧ Binds K fd ["self", f] [] ∧
    ∀ (s : Shared) (u : Value) (ws : List Value), ws.length = 1 → BindsTo s fd ⟨[u], ([f] : List Str).zip ws⟩ ((["self", f] : List Str).zip (u :: ws))
/-- .. and with two -/
structure XV2 (P : Program) (w : World) (K : Frag) (mg : Str → Option Value) (bs : Heap) (nm : Str) (C : Addr) (f g : Str) : Prop where
  oex : OexG K C
  xf : XfC K C
  exc : ExcC K C
  no : findIn K (.ref C) f = some none
  no2 : findIn K (.ref C) g = some none
  ne : (f == g) = false
  gC : mg nm = some (.ref C)
  ini : ∃ (fI : Addr) (fd : FuncData), findIn K (.ref C) "__init__" = some (some (.ref fI)) ∧ typeIn K (.ref fI) = some (.type "function") ∧
    FnOk P w K mg bs CX0 1 fI fd ["self", f, g] (spIni2 C f g) ∧ Binds K fd ["self", f, g] [] ∧
    ∀ (s : Shared) (u : Value) (ws : List Value), ws.length = 2 → BindsTo s fd ⟨[u], ([g, f] : List Str).zip ws⟩ ((["self", f, g] : List Str).zip (u :: ws.reverse))
section
variable {P : Program} {w : World} {K : Frag} {mg : Str → Option Value} {bs : Heap}
/-- the __init__ of such a class -/
theorem ok_iniV {ql f : Str} {st : Stmt} {fI C : Addr} {fd : FuncData} {q1 q2 q3 q4 : Pos} (F : Fun K "__init__" ql st fI fd) (S : FnScope ["self", f] ["self", f] (defScope st)) (T : OexG K C)
    (no : findIn K (.ref C) f = some none) (hb : defBody st = [.Assign [.Attribute (.Name "self" q1) f q2] (.Name f q3) q4])
    (h1 : (defScope st).names.lookup ("self" : Str) = some .local) (h2 : (defScope st).names.lookup f = some .local)
    (n1 : (f == ("__debug__" : Str)) = false) (n2 : (f == ("__classdict__" : Str)) = false) :
    FnOk P w K mg bs CX0 1 fI fd ["self", f] (spIni C f) := by
  refine F.ok S (fun vs H Q E h => ?_) (fun cdv A outer s H vs Q E hr h => ?_)
  · obtain ⟨a, v, rfl, _⟩ := h
    rfl
  · obtain ⟨a, v, rfl, ha, q⟩ := h
    rw [hb]
    refine ⟨_, pss_one (ps_ostG (pe_var (i := 0) rfl (.inl h1) (by decide) (by decide)) (pe_var (i := 1) rfl (.inl h2) n1 n2)), ?_⟩
    exact ⟨_, rfl, _, rfl, a, C, rfl, T, no, .inl ⟨ha, fun dx hd ne => q dx hd ne⟩⟩
theorem ok_iniV2 {ql f g : Str} {st : Stmt} {fI C : Addr} {fd : FuncData} {q1 q2 q3 q4 p1 p2 p3 p4 : Pos} (F : Fun K "__init__" ql st fI fd) (S : FnScope ["self", f, g] ["self", f, g] (defScope st)) (T : OexG K C)
    (no : findIn K (.ref C) f = some none) (no2 : findIn K (.ref C) g = some none)
    (hb : defBody st = [.Assign [.Attribute (.Name "self" q1) f q2] (.Name f q3) q4, .Assign [.Attribute (.Name "self" p1) g p2] (.Name g p3) p4])
    (h1 : (defScope st).names.lookup ("self" : Str) = some .local) (h2 : (defScope st).names.lookup f = some .local) (h3 : (defScope st).names.lookup g = some .local)
    (n1 : (f == ("__debug__" : Str)) = false) (n2 : (f == ("__classdict__" : Str)) = false) (n3 : (g == ("__debug__" : Str)) = false) (n4 : (g == ("__classdict__" : Str)) = false) :
    FnOk P w K mg bs CX0 1 fI fd ["self", f, g] (spIni2 C f g) := by
  refine F.ok S (fun vs H Q E h => ?_) (fun cdv A outer s H vs Q E hr h => ?_)
  · obtain ⟨a, v, u, rfl, _⟩ := h
    rfl
  · obtain ⟨a, v, u, rfl, ha, q⟩ := h
    rw [hb]
    refine ⟨_, pss_cons (ps_ostG (pe_var (i := 0) rfl (.inl h1) (by decide) (by decide)) (pe_var (i := 1) rfl (.inl h2) n1 n2))
      (pss_one (ps_ostG (pe_var (i := 0) rfl (.inl h1) (by decide) (by decide)) (pe_var (i := 2) rfl (.inl h3) n3 n4))), ?_⟩
    refine ⟨_, rfl, _, rfl, a, C, rfl, T, no, .inl ⟨ha, fun dx hd ne => ?_⟩⟩
    refine ⟨_, rfl, _, rfl, a, C, rfl, T, no2, .inr ⟨dx, [(f, v)], upd_same, ?_, (by show 1 ≤ 900; decide), q dx hd ne⟩⟩
    rw [upd_ne ne, upd_same]
end
section
variable {X : Cx} {o e e2 : Expr} {te : TE} {ta : TA} {nm f g : Str} {C : Addr} {p pos apos : Pos} {kws : List Keyword} {tk : TA}
/-- C(k = v, ..) as a value; o puts the values in the parameters' order -/
theorem pe_mkK {x : Str} {fI : Addr} {k m : Nat} {fd : FuncData} {ps ks : List Str} {sp : Sp} {R : List V → Hp → VK → Prop} (oV : List V → List V) (o : List Value → List Value)
    (hR : ∀ zs H1 Q, R zs H1 Q → zs.length = m ∧ ∀ a, H1 a = none → sp (.ref a :: oV zs) (upd H1 a (exo a C none)) (fun v H2 => v = .non ∧ Q (.ref a) H2) (fun _ _ _ => False)) (T : OexG X.K C)
    (iC : findIn X.K (.ref C) "__init__" = some (some (.ref fI))) (tI : typeIn X.K (.ref fI) = some (.type "function")) (F1 : FnOk X.prog X.w X.K X.mg X.base CX0 k fI fd ps sp) (hr : Room (k + 1) X.A)
    (bt : ∀ (s : Shared) (u : Value) (ws : List Value), ws.length = m → BindsTo s fd ⟨[u], ks.zip ws⟩ (ps.zip (u :: o ws)))
    (rel : ∀ (zs : List V) (ws : List Value), zs.length = m → Vals zs ws → Vals (oV zs) (o ws)) (hg : Gl X x) (hm : X.mg x = some (.ref C)) (hkw : PK X kws tk)
    (a1 : (backToKw pos (keywordEach kws X.env)).all (·.1.isSome) = true := by rfl) (a2 : (backToKw pos (keywordEach kws X.env)).filterMap (·.1) = ks := by rfl)
    (n1 : (x == ("__debug__" : Str)) = false := by decide)
    (n3 : ((backTo pos (starEach [] X.env)).any (·.1) || (backToKw pos (keywordEach kws X.env)).any (·.1.isNone)) = false := by rfl) :
    PE X (.Call (.Name x p) [] kws pos) (tMkV R tk) := by
  refine ⟨fun pins s σ H Q I h => ?_⟩
  obtain ⟨B, nw, ini, bm, bx, qi, _⟩ := T.base
  refine wpAny_Call_Name_kw (ld_glob I hg hm ?_ n1)
  refine callWith_KW0 (h₀ := X.base) I.ok.mod.kin T.kp a1 (thn (hkw.run pos pins s σ H _ I h) fun ws s1 z1 => ?_) n3
  obtain ⟨zs, H1, I1, r1, rr⟩ := z1
  obtain ⟨l1, q1⟩ := hR _ _ _ rr
  refine ⟨I1.kIn, ?_⟩
  rw [a2]
  obtain ⟨nmC, N, qn, bsC, bmC, hdct, sn, sub, ab, col, dd, k0, k1, k2, k3, k5, hC, hT⟩ := excInit_of I1.kIn qi
  show wpAny _ _ (call (.ref C) [] (ks.zip ws)) _ _ _
  obtain ⟨hp, g, dr, tk, os⟩ := s1
  generalize hA : hp.objs.size + 1 = a
  have big : hp.objs.size ≤ a := by omega
  have hq := q1 a (I1.hok.fresh big)
  have keep : ∀ b o, hp.get? b = some o → ((hp.push (kdv_tup [])).push (HandSPX.excO C hp.objs.size)).get? b = some o := fun b o q => Heap.get?_push_of_some _ (Heap.get?_push_of_some _ q)
  have now : ((hp.push (kdv_tup [])).push (HandSPX.excO C hp.objs.size)).get? a = some (HandSPX.excO C hp.objs.size) := by
    rw [← hA]
    heap_get
  have I2 : Inv X pins σ (upd H1 a (exo a C none)) ⟨(hp.push (kdv_tup [])).push (HandSPX.excO C hp.objs.size), g, dr, tk, os⟩ :=
    I1.laid (t' := tk) (a := a) (o := exo a C none) (h' := (hp.push (kdv_tup [])).push (HandSPX.excO C hp.objs.size)) keep big (exo_ok now)
  have r2 : Vals (V.ref a :: oV zs) (Value.ref a :: o ws) := .cons rfl (rel zs ws l1 r1)
  refine wpAny_call (call_ownK bx.f hT hC (looks_findIn I1.kIn iC) (fun self => bind_fn I1.kIn self tI) ?_)
  rw [hA]
  refine codeAny_mono (F1.run _ X.stack _ _ ⟨[Value.ref a], ks.zip ws⟩ (Value.ref a :: o ws) _ _ (fun _ _ _ => False) (hr.make C [] _) (I2.env0.make C [] _) (bt _ _ ws (by rw [← r1.length]; exact l1)) r2 hq) fun r s' z => ?_
  cases r with
  | error er => exact False.elim z
  | ok fl =>
    cases fl with
    | ret u =>
      obtain ⟨v, H2, os2, bare2, un2, hok2, rv, ev, q2⟩ := z
      subst ev
      exact ⟨rv, .ref a, H2, I2.call' (ch := []) os2 un2 hok2 bare2 (fun b z => absurd z (by simp)), rfl, q2⟩
    | next => exact False.elim z
    | brk => exact False.elim z
    | cont => exact False.elim z
/-- what the making comes to -/
theorem ini_go {H : Hp} {a : Addr} {v : V} {Q : VK} (ha : H a = none) (h : ∀ d H', Same H H' → ExAt H' a C d [(f, v)] → Q (.ref a) H') :
    spIni C f [.ref a, v] (upd H a (exo a C none)) (fun u H2 => u = .non ∧ Q (.ref a) H2) (fun _ _ _ => False) := by
  refine ⟨a, v, rfl, upd_same, fun dx hd ne => ⟨rfl, h dx _ (fun b o e => ?_) ⟨upd_same, by rw [upd_ne ne, upd_same]⟩⟩⟩
  rw [upd_ne (ne_of_none e ha)]
  have nd : H dx = none := by rwa [upd_ne ne] at hd
  rw [upd_ne (ne_of_none e nd), upd_ne (ne_of_none e ha)]
  exact e
theorem ini_go2 {H : Hp} {a : Addr} {v u : V} {Q : VK} (ha : H a = none) (h : ∀ d H', Same H H' → ExAt H' a C d [(g, u), (f, v)] → Q (.ref a) H') :
    spIni2 C f g [.ref a, v, u] (upd H a (exo a C none)) (fun z H2 => z = .non ∧ Q (.ref a) H2) (fun _ _ _ => False) := by
  refine ⟨a, v, u, rfl, upd_same, fun dx hd ne => ⟨rfl, h dx _ (fun b o e => ?_) ⟨by rw [upd_ne ne.symm, upd_same], upd_same⟩⟩⟩
  have nd : H dx = none := by rwa [upd_ne ne] at hd
  rw [upd_ne (ne_of_none e nd), upd_ne (ne_of_none e ha), upd_ne (ne_of_none e nd), upd_ne (ne_of_none e ha)]
  exact e
/-- C(e), C(f = e), C(e, e2), C(g = e2, f = e) -/
def rMk1 (C : Addr) (f : Str) : List V → Hp → VK → Prop := fun vs H1 Q => ∃ v, vs = [v] ∧ ∀ a d H', Same H1 H' → ExAt H' a C d [(f, v)] → Q (.ref a) H'
def rMk2 (C : Addr) (f g : Str) : List V → Hp → VK → Prop := fun vs H1 Q => ∃ v u, vs = [v, u] ∧ ∀ a d H', Same H1 H' → ExAt H' a C d [(g, u), (f, v)] → Q (.ref a) H'
def rMk2K (C : Addr) (f g : Str) : List V → Hp → VK → Prop := fun vs H1 Q => ∃ v u, vs = [u, v] ∧ ∀ a d H', Same H1 H' → ExAt H' a C d [(g, u), (f, v)] → Q (.ref a) H'
theorem pe_mk1 (T : XV1 X.prog X.w X.K X.mg X.base nm C f) (hr : Room 2 X.A) (hg : Gl X nm) (he : PE X e te) (hdb : (nm == ("__debug__" : Str)) = false := by decide)
    (hs : starEach [e] X.env = (false, eval e X.env) :: starEach [] X.env := by rfl) : PE X (.Call (.Name nm p) [e] [] pos) (tMkV (rMk1 C f) (tCons te tNil)) := by
  obtain ⟨fI, fd, h1, h2, h3, h4, _⟩ := T.ini
  refine pe_mkV (fun vs H1 Q h => ?_) T.oex h1 h2 h3 hr h4 hg T.gC (pa_cons he pa_nil hs) hdb hs
  obtain ⟨v, rfl, h⟩ := h
  exact ⟨(by show 1 ≤ 1000; decide), fun a ha => ini_go ha fun d H' s x => h a d H' s x⟩
theorem pe_mk1K (T : XV1 X.prog X.w X.K X.mg X.base nm C f) (hr : Room 2 X.A) (hg : Gl X nm) (hk : PK X kws tk)
    (a1 : (backToKw pos (keywordEach kws X.env)).all (·.1.isSome) = true := by rfl) (a2 : (backToKw pos (keywordEach kws X.env)).filterMap (·.1) = [f] := by rfl)
    (hdb : (nm == ("__debug__" : Str)) = false := by decide) (n3 : ((backTo pos (starEach [] X.env)).any (·.1) || (backToKw pos (keywordEach kws X.env)).any (·.1.isNone)) = false := by rfl) :
    PE X (.Call (.Name nm p) [] kws pos) (tMkV (rMk1 C f) tk) := by
  obtain ⟨fI, fd, h1, h2, h3, _, h5⟩ := T.ini
  refine pe_mkK (m := 1) id id (fun vs H1 Q h => ?_) T.oex h1 h2 h3 hr h5 (fun _ _ _ r => r) hg T.gC hk a1 a2 hdb n3
  obtain ⟨v, rfl, h⟩ := h
  exact ⟨rfl, fun a ha => ini_go ha fun d H' s x => h a d H' s x⟩
theorem pe_mk2 {te2 : TE} (T : XV2 X.prog X.w X.K X.mg X.base nm C f g) (hr : Room 2 X.A) (hg : Gl X nm) (he : PE X e te) (he2 : PE X e2 te2) (hdb : (nm == ("__debug__" : Str)) = false := by decide)
    (hs : starEach [e, e2] X.env = (false, eval e X.env) :: starEach [e2] X.env := by rfl) (hs2 : starEach [e2] X.env = (false, eval e2 X.env) :: starEach [] X.env := by rfl)
    (n3 : (backTo pos (starEach [e2] X.env)).any (·.1) = false := by rfl) :
    PE X (.Call (.Name nm p) [e, e2] [] pos) (tMkV (rMk2 C f g) (tCons te (tCons te2 tNil))) := by
  obtain ⟨fI, fd, h1, h2, h3, h4, _⟩ := T.ini
  refine pe_mkV (fun vs H1 Q h => ?_) T.oex h1 h2 h3 hr h4 hg T.gC (pa_cons he (pa_cons he2 pa_nil hs2) hs) hdb hs n3
  obtain ⟨v, u, rfl, h⟩ := h
  exact ⟨(by show 2 ≤ 1000; decide), fun a ha => ini_go2 ha fun d H' s x => h a d H' s x⟩
theorem rev2 (zs : List V) (ws : List Value) (h : zs.length = 2) (r : Vals zs ws) : Vals zs.reverse ws.reverse := by
  cases r with
  | nil => cases h
  | cons r1 t =>
    cases t with
    | nil => cases h
    | cons r2 t =>
      cases t with
      | nil => exact .cons r2 (.cons r1 .nil)
      | cons _ _ => simp at h
theorem pe_mk2K (T : XV2 X.prog X.w X.K X.mg X.base nm C f g) (hr : Room 2 X.A) (hg : Gl X nm) (hk : PK X kws tk)
    (a1 : (backToKw pos (keywordEach kws X.env)).all (·.1.isSome) = true := by rfl) (a2 : (backToKw pos (keywordEach kws X.env)).filterMap (·.1) = [g, f] := by rfl)
    (hdb : (nm == ("__debug__" : Str)) = false := by decide) (n3 : ((backTo pos (starEach [] X.env)).any (·.1) || (backToKw pos (keywordEach kws X.env)).any (·.1.isNone)) = false := by rfl) :
    PE X (.Call (.Name nm p) [] kws pos) (tMkV (rMk2K C f g) tk) := by
  obtain ⟨fI, fd, h1, h2, h3, _, h5⟩ := T.ini
  refine pe_mkK (m := 2) List.reverse List.reverse (fun vs H1 Q h => ?_) T.oex h1 h2 h3 hr h5 rev2 hg T.gC hk a1 a2 hdb n3
  obtain ⟨v, u, rfl, h⟩ := h
  exact ⟨rfl, fun a ha => ini_go2 ha fun d H' s x => h a d H' s x⟩
/-- e.n, e an own error -/
def tXv (K : Frag) (n : Str) (te : TE) : TE := fun σ H Q => te σ H fun x H1 => ∃ (a C d : Addr) (fs : List (Str × V)) (v : V), x = .ref a ∧ XfC K C ∧ findIn K (.ref C) n = some none ∧
  ExAt H1 a C d fs ∧ fs.lookup n = some v ∧ Q v H1
theorem pe_xv {n : Str} (he : PE X e te) (hb : attributeBase e n X.env (eval e X.env) = eval e X.env := by rfl) : PE X (.Attribute e n pos) (tXv X.K n te) := by
  refine ⟨fun pins s σ H Q I h => ?_⟩
  refine attr_of hb (thn (he.run pins s σ H _ I h) fun u s1 z => ?_)
  obtain ⟨x, H1, I1, rx, a, C, d, fs, v, rfl, T, no, ⟨ha, hd⟩, l, q⟩ := z
  obtain rfl : u = Value.ref a := rx
  obtain ⟨t1, at1⟩ := exo_at I1.hok ha
  obtain ⟨mA, hns, rel⟩ := exd_at I1.hok hd
  obtain ⟨od, at2, look⟩ := lookIn_ns hns
  obtain ⟨y, hy, ry⟩ := RelO.some_of (v := v) (o := mA n) (by rw [← l]; exact rel n)
  have J : InstAt s1.heap a { cls := .ref C, dict := some d, data := .fields #[.ref t1, .none, .none, .none, .bool false, .none] } C (some od) := ⟨at1, rfl, rfl, at2⟩
  exact HandSPX.exc_get I1.kIn J T.ga T.gg T.exC (findObj_own T.hdC no rfl (by rw [look, hy])) (handed_of ry) ⟨v, H1, I1.tok _, ry, q⟩
/-- isinstance(e, c), e an own error -/
theorem call_isV : CallR X (.builtin "isinstance") (fun xs H Q => ∃ (a C : Addr), ErrAt H a C ∧ ExcC X.K C ∧ rIsE X.K C a xs H Q) := by
  intro pins s σ H xs us Q I r h
  obtain ⟨a, C, he, T, c, cv, b, rfl, hcv, kit, q⟩ := h
  obtain ⟨u1, u2, rfl, r1, r2⟩ := vals2 r
  obtain rfl : u1 = Value.ref a := r1
  have ec := hcv _ r2
  subst ec
  rcases he with ⟨d, fs, ha, hd⟩ | ha
  · obtain ⟨t1, at1⟩ := exo_at I.hok ha
    obtain ⟨mA, ⟨od, es, ep, at2, _⟩, _⟩ := exd_at I.hok hd
    have J : InstAt s.heap a { cls := .ref C, dict := some d, data := .fields #[.ref t1, .none, .none, .none, .bool false, .none] } C (some od) := ⟨at1, rfl, rfl, at2⟩
    exact kia_one (kit_exc T) I.kIn J kit (fun z => nomatch z) fun tk => ⟨.bl b, H, I.kept (t' := tk) fun _ _ z => z, rfl, q⟩
  · obtain ⟨⟨oe, vs, at1, hz, hf, _⟩, _, _⟩ := I.hok a _ ha
    obtain ⟨oc, odi, oda, osl⟩ := oe
    obtain ⟨h1, h2⟩ := hz
    dsimp only at h1 h2 hf
    subst h1 h2 hf
    have J : InstAt s.heap a { cls := .ref C, dict := none, data := .fields vs, slots := osl } C none := ⟨at1, rfl, rfl, trivial⟩
    exact kia_one (kit_exc T) I.kIn J kit (fun z => nomatch z) fun tk => ⟨.bl b, H, I.kept (t' := tk) fun _ _ z => z, rfl, q⟩
end
end G
set_option maxHeartbeats 2000000
/-! try with several except clauses, each with a name or without one. -/
namespace G
open PySem PySem.Spec PyProof.Rows L2
abbrev Suite := Addr → Value → Option Addr → TS
/-- a clause's suite: o is the slot of its name -/
def hGo (o : Option Nat) (ts : Suite) (a : Addr) (cls : Value) (d : Option Addr) (D : Ends) (σ : L2.St) (H : Hp) : Prop :=
  match o with
  | none => ts a cls d D σ H
  | some i => ts a cls d (⟨fun s J => D.nx (s.set i none) J, D.rt, fun s J => D.bk (s.set i none) J, fun s J => D.ct (s.set i none) J⟩ : Ends) (σ.set i (some (.ref a))) H
/-- what the clauses wish of an error of the body, one after the other -/
def wHs (K : PySem.W.Frag) (Wo : WX) (D : Ends) : List (Value × Option Nat × Suite) → WX
  | [] => Wo
  | (c, o, ts) :: r => fun cls d σ H => ∃ b, PySem.W.exmOne K cls c = some b ∧
      (b = true → ∀ a, H a = none → hGo o ts a cls d D σ H) ∧ (b = false → wHs K Wo D r cls d σ H)
inductive HsOk (X : Cx) : List ExceptHandler → List (Value × Option Nat × Suite) → Prop
  | nil : HsOk X [] []
  | plain {x : Str} {c : Value} {ts : Suite} {b0 : Stmt} {su : List Stmt} {np p' : Pos} {hs : List ExceptHandler}
      {l : List (Value × Option Nat × Suite)} (hc : Names X x c)
      (hsu : ∀ (a : Addr) (oe : Obj) (cls : Value) (d : Option Addr) (pn : List (Addr × Obj)), Zc cls d oe →
        (∃ vs, oe.data = .fields vs) → PSs (X.suite a ((a, oe) :: pn)) (b0 :: su) (ts a cls d)) (r : HsOk X hs l) :
      HsOk X (.ExceptHandler (some (.Name x np)) none (b0 :: su) p' :: hs) ((c, none, ts) :: l)
  | named {x n : Str} {c : Value} {i : Nat} {ts : Suite} {b0 : Stmt} {su : List Stmt} {np p' : Pos} {hs : List ExceptHandler}
      {l : List (Value × Option Nat × Suite)} (hc : Names X x c) (hN : X.N.Nodup) (hi : X.N[i]? = some n)
      (hl : X.env.kindOf n = some .local)
      (hsu : ∀ (a : Addr) (oe : Obj) (cls : Value) (d : Option Addr) (pn : List (Addr × Obj)), Zc cls d oe →
        (∃ vs, oe.data = .fields vs) → PSs (X.suite a ((a, oe) :: pn)) (b0 :: su) (ts a cls d)) (r : HsOk X hs l) :
      HsOk X (.ExceptHandler (some (.Name x np)) (some n) (b0 :: su) p' :: hs) ((c, some i, ts) :: l)
section
variable {X : Cx} {body : List Stmt} {h0 : ExceptHandler} {hs : List ExceptHandler} {l : List (Value × Option Nat × Suite)}
  {pos : Pos} {tb : WX → TS} {Wo : WX}
theorem ps_try_hs (hk : X.stack = X.env :: X.outer) (hf : X.env.frame = some X.env.locals) (tk : Takes X Wo)
    (hb : ∀ (W : WX) (pn : List (Addr × Obj)) (xe : Value → Shared → Prop), Takes (X.tr pn xe) W →
      PassesOwn (model X.prog X.w) X.A X.env xe → PSs (X.tr pn xe) body (tb W)) (hh : HsOk X (h0 :: hs) l) :
    PS X (.Try body (h0 :: hs) [] [] pos) (fun D σ H => tb (wHs X.K Wo D l) D σ H) := by
  refine ⟨fun pins s σ H D I h => ?_⟩
  have ok := I.ok
  have frm : X.A.frames = some (X.env :: X.outer) := by
    rw [ok.frames, hk]
  refine wpAny_Try_except ?_
  have bodyRun := (hb (wHs X.K Wo D l) (X.pn ++ pins) (fun e s1 => wpAny (model X.prog X.w) X.A (noteFrame e X.env)
    (fun _ s2 => wpAny (model X.prog X.w) X.A (setFlight e none) (fun _ s3 => wpAny (model X.prog X.w) X.A
      (handleBy e X.env (h0 :: hs)) (SP X pins D) X.xe s3) X.xe s2) X.xe s1) ?ca PassesOwn.looking).run [] s σ H D
    (I.toTry _) h
  case ca =>
    intro u sx xx
    obtain ⟨a, B, sI, ps', σ2, H2, cls, d, rfl, I2, nb, up, sky, na, os, ag, wt⟩ := xx
    have J : Inv X pins σ2 H2 sI := I2.ofTry ok
    have sk : Sky B (X.env :: X.outer) a (Zc cls d) X.env.locals sx.heap := by
      rw [← hk]
      exact sky
    show wpAny (model X.prog X.w) X.A (noteFrame (.ref a) X.env) _ _ _
    refine Sky.land Zc.steady frm hf sk fun g3 fl up3 => ?_
    have J3 : Inv X pins σ2 H2 { sx with heap := g3 } := J.landed nb fl.1 (up.trans up3) os ag
    obtain ⟨o3, vs3, at3, z3, d3⟩ := fl.there
    have nfr : a ∉ frs (X.env :: X.outer) := by
      intro hm
      obtain ⟨_, o', e', hnf⟩ := fl.2.2.1.mem hm
      rw [at3] at e'
      cases e'
      exact hnf _ d3
    have nL : a ≠ X.env.locals := by
      intro z
      refine nfr (List.mem_filterMap.mpr ⟨X.env, List.mem_cons_self, ?_⟩)
      rw [hf, z]
    have nF : a ∉ X.fs := by
      intro hm
      obtain ⟨e, he, q⟩ := List.mem_filterMap.mp hm
      exact nfr (List.mem_filterMap.mpr ⟨e, .tail _ he, q⟩)
    have S3 := J3.suite at3 d3 na nL nF
    -- the test of a clause
    have test : ∀ {x : Str} {c : Value} {np : Pos} {b : Bool} {Q : Bool → Shared → Prop} {E : Value → Shared → Prop},
        Names X x c → PySem.W.exmOne X.K cls c = some b → Q b { sx with heap := g3 } →
        wpAny (model X.prog X.w) (X.A.mark (some (.ref a))) (eval (.Name x np) X.env)
          (fun v s1 => wpAny (model X.prog X.w) (X.A.mark (some (.ref a))) (excMatches (.ref a) v) Q E s1) E { sx with heap := g3 } := by
      intro x c np b Q E hc e q
      have ty : PySem.W.Looks (model X.prog X.w) g3 (typeOf (.ref a)) cls := by
        intro A' Q' E' s' k q'
        refine wpAny_typeOf_ref (k _ _ at3) ?_
        rw [z3.1]
        exact q'
      have mt := PySem.W.exm_one (M := model X.prog X.w) J3.kIn ty e
      obtain ⟨hg, hdb, hm | ⟨hm, hv, hnn⟩⟩ := hc
      · exact ld_glob (X := X.suite a ((a, o3) :: (X.pn ++ pins))) S3 hg hm (mt.here q) hdb
      · exact ld_blt (X := X.suite a ((a, o3) :: (X.pn ++ pins))) S3 hg hm hv (mt.here q) hnn hdb
    have go : ∀ {hs' : List ExceptHandler} {l' : List (Value × Option Nat × Suite)}, HsOk X hs' l' →
        wHs X.K Wo D l' cls d σ2 H2 →
        wpAny (model X.prog X.w) X.A (handleBy (.ref a) X.env hs') (SP X pins D) X.xe { sx with heap := g3 } := by
      intro hs' l' hh'
      induction hh' with
      | nil =>
        intro w0
        obtain ⟨k1, k2, k3, oe, vs, T, oT, t0, he, hz, hd, h1, hr⟩ := id fl
        refine wpAny_handleBy_nil ?_
        unfold PySem.passOn
        refine wpAny_bind (wpAny_field he hd h1 ?_)
        rw [if_neg (by simp : ¬ ((Value.ref T == Value.none) = true))]
        have fin : wpAny (model X.prog X.w) X.A (setFlight (.ref a) X.env.frame) (fun _ s4 => wpAny (model X.prog X.w) X.A
            (throw (.ref a) : Sem Flow) (SP X pins D) X.xe s4) X.xe { sx with heap := g3 } := by
          rw [hf]
          refine HandSPX.setFlight_upZ fl fun g4 fl4 up4 => wpAny_throw (tk _ _ ?_)
          exact ⟨a, B, sI, pins, σ2, H2, cls, d, rfl, J, nb, (up.trans up3).trans up4,
            .inr (.inr (by rw [hk]; exact fl4)), na, os, ag, w0⟩
        first
          | exact wpAny_bind (wpAny_pure (wpAny_bind fin))
          | exact wpAny_bind fin
      | @plain x c ts b0 su np p' hs2 l2 hc hsu r ih =>
        intro w0
        obtain ⟨b, e, yes, no⟩ := w0
        refine wpAny_handleBy_cons (codeAny_handlers_test (test hc e ?_)) (by intro q; cases q)
        cases b with
        | false =>
          show wpAny _ X.A (handleBy (.ref a) X.env hs2) _ _ _
          exact ih (no rfl)
        | true =>
          refine codeAny_handlers_suite (HandSPX.lands_againZ fl fun g4 fl4 up4 => ?_)
          have J4 : Inv X pins σ2 H2 { sx with heap := g4 } := J.landed nb fl4.1 ((up.trans up3).trans up4) os ag
          obtain ⟨o4, vs4, at4, z4, d4⟩ := fl4.there
          have S4 := J4.suite at4 d4 na nL nF
          have y0 : ts a cls d D σ2 H2 := yes rfl a na
          refine wpAny_mono ((hsu a o4 cls d (X.pn ++ pins) z4 ⟨_, d4⟩).run [] _ _ H2 _ S4 y0)
            (fun f s6 z => ?_) (fun _ _ z => False.elim z)
          cases f with
          | ret u =>
            obtain ⟨v, σ6, H6, S6, r6, q6⟩ := z
            exact ⟨v, σ6, H6, S6.unsuite ok, r6, q6⟩
          | next =>
            obtain ⟨σ6, H6, S6, q6⟩ := z
            exact ⟨σ6, H6, S6.unsuite ok, q6⟩
          | brk =>
            obtain ⟨σ6, H6, S6, q6⟩ := z
            exact ⟨σ6, H6, S6.unsuite ok, q6⟩
          | cont =>
            obtain ⟨σ6, H6, S6, q6⟩ := z
            exact ⟨σ6, H6, S6.unsuite ok, q6⟩
      | @named x n c i ts b0 su np p' hs2 l2 hc hN hi hl hsu r ih =>
        intro w0
        obtain ⟨b, e, yes, no⟩ := w0
        refine wpAny_handleBy_cons (codeAny_handlers_test (test hc e ?_)) (by intro q; cases q)
        cases b with
        | false =>
          show wpAny _ X.A (handleBy (.ref a) X.env hs2) _ _ _
          exact ih (no rfl)
        | true =>
          refine codeAny_handlers_suite_as (HandSPX.lands_againZ fl fun g4 fl4 up4 => ?_)
          have J4 : Inv X pins σ2 H2 { sx with heap := g4 } := J.landed nb fl4.1 ((up.trans up3).trans up4) os ag
          obtain ⟨o4, vs4, at4, z4, d4⟩ := fl4.there
          have S4 := J4.suite at4 d4 na nL nF
          have y0 := yes rfl a na
          refine store_ok (X := X.suite a ((a, o4) :: (X.pn ++ pins))) (v := .ref a) S4 hN hi (.inl hl) rfl
            (fun s5 S5 => ?_) (.inr hl)
          refine wpAny_mono ((hsu a o4 cls d (X.pn ++ pins) z4 ⟨_, d4⟩).run [] s5 _ H2 _ S5 y0)
            (fun f s6 z => ?_) (fun _ _ z => False.elim z)
          have out : ∀ {σ6 : L2.St} {H6 : Hp} {Q : Shared → Prop}, Inv (X.suite a ((a, o4) :: (X.pn ++ pins))) [] σ6 H6 s6 →
              (∀ s7, Inv X pins (σ6.set i none) H6 s7 → Q s7) →
              wpAny (model X.prog X.w) X.A (do bindName X.env n .none; unbindBehindTheSuite X.env n p')
                (fun _ s7 => Q s7) X.xe s6 := by
            intro σ6 H6 Q S6 hq
            exact gone_ok (S6.unsuite ok) hN hi hl hq
          cases f with
          | ret u =>
            obtain ⟨v, σ6, H6, S6, r6, q6⟩ := z
            exact out S6 fun s7 J7 => ⟨v, _, H6, J7, r6, q6⟩
          | next =>
            obtain ⟨σ6, H6, S6, q6⟩ := z
            exact out S6 fun s7 J7 => ⟨_, H6, J7, q6⟩
          | brk =>
            obtain ⟨σ6, H6, S6, q6⟩ := z
            exact out S6 fun s7 J7 => ⟨_, H6, J7, q6⟩
          | cont =>
            obtain ⟨σ6, H6, S6, q6⟩ := z
            exact out S6 fun s7 J7 => ⟨_, H6, J7, q6⟩
    exact go hh wt
  refine wpAny_mono bodyRun (fun f s1 z => ?_) (fun e s1 he => he)
  cases f with
  | ret u =>
    obtain ⟨v, σ6, H6, J6, r6, q6⟩ := z
    exact ⟨v, σ6, H6, J6.ofTry ok, r6, q6⟩
  | next =>
    obtain ⟨σ6, H6, J6, q6⟩ := z
    exact wpAny_execs_nil ⟨σ6, H6, J6.ofTry ok, q6⟩
  | brk =>
    obtain ⟨σ6, H6, J6, q6⟩ := z
    exact ⟨σ6, H6, J6.ofTry ok, q6⟩
  | cont =>
    obtain ⟨σ6, H6, J6, q6⟩ := z
    exact ⟨σ6, H6, J6.ofTry ok, q6⟩
end
end G
set_option maxHeartbeats 400000
/-! Rules for the second stage: zip of three, len of a set of texts, == of dicts, == by an own __eq__. -/
namespace G
open PySem PySem.Spec PyProof.Rows L2

/-- two tuples and a list walked together -/
def Itz3 (K : PySem.W.Frag) (a b c : Addr) : It :=
  ⟨fun i H => ∃ (xs ys zs : List V) (x y z : V), SqT K H a xs ∧ SqT K H b ys ∧ SqL K H c zs ∧ xs[i]? = some x ∧ ys[i]? = some y ∧ zs[i]? = some z,
    fun i H v H' => ∃ T x y z, v = .ref T ∧ H T = none ∧ H' = upd H T (.tup [x, y, z]) ∧ (∀ xs, SqT K H a xs → xs[i]? = some x) ∧
      (∀ ys, SqT K H b ys → ys[i]? = some y) ∧ ∀ zs, SqL K H c zs → zs[i]? = some z,
    fun i H => ∃ xs ys zs : List V, SqT K H a xs ∧ SqT K H b ys ∧ SqL K H c zs ∧ i = min (min xs.length ys.length) zs.length⟩
abbrev tn3 (z TI TO i1 i2 i3 a b c : Addr) (i : Nat) (h : Heap) : Prop :=
  IsZip h z TI TO .none ∧ IsTupOf3 h TI (.ref i1) (.ref i2) (.ref i3) ∧ (∃ x y u, IsTupOf3 h TO x y u) ∧ h.IsTupleIter i1 a i ∧ h.IsTupleIter i2 b i ∧ h.IsListIter i3 c i
theorem tn3_obj {z TI TO i1 i2 i3 a b c : Addr} {i : Nat} {h : Heap} (st : tn3 z TI TO i1 i2 i3 a b c i h) (q : Addr) (hq : q ∈ [z, TI, TO, i1, i2, i3]) :
    ∃ o, h.get? q = some o ∧ ∀ v, o.data ≠ .cell v := by
  obtain ⟨hz, hTI, ⟨x, y, u, hTO⟩, ⟨o1, e1, _, d1⟩, ⟨o2, e2, _, d2⟩, ⟨o3, e3, _, d3⟩⟩ := st
  simp only [List.mem_cons, List.not_mem_nil, or_false] at hq
  rcases hq with rfl | rfl | rfl | rfl | rfl | rfl
  · exact ⟨_, hz, fun v k => nomatch k⟩
  · exact ⟨_, hTI, fun v k => nomatch k⟩
  · exact ⟨_, hTO, fun v k => nomatch k⟩
  · exact ⟨o1, e1, fun v k => by rw [d1] at k; cases k⟩
  · exact ⟨o2, e2, fun v k => by rw [d2] at k; cases k⟩
  · exact ⟨o3, e3, fun v k => by rw [d3] at k; cases k⟩
theorem turn_zip3 {P : Program} {w : World} {K : PySem.W.Frag} {elts : List Expr} {kk : Nat} {tpos : Pos} {a b c z TI TO i1 i2 i3 : Addr}
    (S : ZipSep3 z TI TO i1 i2 i3 [i1, a] [i2, b] [i3, c]) (na : a ≠ i1) (nb : b ≠ i2) (nc : c ≠ i3) :
    Turn P w K (.Tuple elts kk tpos) (Itz3 K a b c) [z, TI, TO, i1, i2, i3] z (tn3 z TI TO i1 i2 i3 a b c) where
  mem := List.mem_cons_self
  obj := fun i h st q hq => tn3_obj st q hq
  keep := fun i h h' st k => by
    obtain ⟨hz, hTI, ⟨x, y, u, hTO⟩, h1, h2, h3⟩ := st
    exact ⟨k z (by simp) _ hz, k TI (by simp) _ hTI, ⟨x, y, u, k TO (by simp) _ hTO⟩, h1.at fun o q => k i1 (by simp) o q,
      h2.at fun o q => k i2 (by simp) o q, h3.at fun o q => k i3 (by simp) o q⟩
  item := by
    intro X hP hw hK hc i pins s σ H E I hf st hg
    subst hP hw hK
    have st0 := st
    obtain ⟨hz, hTI, hTO, h1, h2, h3⟩ := st
    obtain ⟨xs, ys, zs, x, y, u, qx, qy, qz, ex, ey, ez⟩ := hg
    obtain ⟨is1, v1, p1, _⟩ := I.tuple qx
    obtain ⟨is2, v2, p2, _⟩ := I.tuple qy
    obtain ⟨is3, v3, p3, _⟩ := I.list qz
    have hd : X.A.in1.handled = none := by simp [I.ok.hd hc]
    have W := GoesN.zip3 (prog := X.prog) (w := X.w) (A := X.A) (elts := elts) (x1 := kk) (pos := tpos) S
      (Draws.tuple hd i1 a na is1.toArray) (Draws.tuple hd i2 b nb is2.toArray) (Draws.list hd i3 c nc is3.toArray)
    have l1 := v1.length
    have l2 := v2.length
    have l3 := v3.length
    have m1 := (List.getElem?_eq_some_iff.mp ex).1
    have m2 := (List.getElem?_eq_some_iff.mp ey).1
    have m3 := (List.getElem?_eq_some_iff.mp ez).1
    refine W.goes i s _ E (by simp only [List.size_toArray]; omega) ⟨hz, hTI, hTO, ⟨h1, p1⟩, ⟨h2, p2⟩, ⟨h3, p3.isList⟩⟩ fun v h' tk hY st' hk htk => ?_
    obtain ⟨T, a1, a2, a3, rfl, hT, e1, e2, e3, tup⟩ := hY
    obtain ⟨w1, hw1, r1⟩ := v1.get ex
    obtain ⟨w2, hw2, r2⟩ := v2.get ey
    obtain ⟨w3, hw3, r3⟩ := v3.get ez
    have z1 : a1 = w1 := by
      have q : is1[i]? = some a1 := by simpa using e1
      rw [hw1] at q
      exact (Option.some.inj q).symm
    have z2 : a2 = w2 := by
      have q : is2[i]? = some a2 := by simpa using e2
      rw [hw2] at q
      exact (Option.some.inj q).symm
    have z3 : a3 = w3 := by
      have q : is3[i]? = some a3 := by simpa using e3
      rw [hw3] at q
      exact (Option.some.inj q).symm
    subst z1 z2 z3
    have new : ObjOk X.prog X.w (upd H T (.tup [x, y, u])) h' T (.tup [x, y, u]) :=
      ⟨by show 3 ≤ sizeLine; decide, [a1, a2, a3], .cons r1 (.cons r2 (.cons r3 .nil)), tup⟩
    have I1 : Inv X pins σ (upd H T (.tup [x, y, u])) { s with heap := h', toks := tk } :=
      I.turnedNew (t' := tk) (ch := [z, TI, TO, i1, i2, i3]) (fun q o hq k => hk q o (fun m => hq (by
        simp only [List.mem_cons, List.not_mem_nil, or_false] at m ⊢
        rcases m with m | m | m | m | m <;> simp [m])) k) hf hT new
    refine ⟨.ref T, _, I1, rfl, ⟨T, x, y, u, rfl, I.hok.fresh hT, rfl, fun l hl => by rw [I.tuple_inj hl qx]; exact ex,
      fun l hl => by rw [I.tuple_inj hl qy]; exact ey, fun l hl => by rw [I.list_inj hl qz]; exact ez⟩,
      ⟨st'.1, st'.2.1, st'.2.2.1, st'.2.2.2.1.1, st'.2.2.2.2.1.1, st'.2.2.2.2.2.1⟩, fun q hq => ?_⟩
    obtain ⟨o, ho, _⟩ := tn3_obj st0 q hq
    rw [upd_ne (Nat.ne_of_lt (Nat.lt_of_lt_of_le (Heap.lt_size ho) hT))]
    exact (hf q hq).1
  done := by
    intro X hP hw hK hc i pins s σ H E I hf st hg
    subst hP hw hK
    obtain ⟨hz, hTI, hTO, h1, h2, h3⟩ := st
    obtain ⟨xs, ys, zs, qx, qy, qz, ei⟩ := hg
    obtain ⟨is1, v1, p1, _⟩ := I.tuple qx
    obtain ⟨is2, v2, p2, _⟩ := I.tuple qy
    obtain ⟨is3, v3, p3, _⟩ := I.list qz
    have hd : X.A.in1.handled = none := by simp [I.ok.hd hc]
    have W := GoesN.zip3 (prog := X.prog) (w := X.w) (A := X.A) (elts := elts) (x1 := kk) (pos := tpos) S
      (Draws.tuple hd i1 a na is1.toArray) (Draws.tuple hd i2 b nb is2.toArray) (Draws.list hd i3 c nc is3.toArray)
    have en : i = min (min is1.toArray.size is2.toArray.size) is3.toArray.size := by
      rw [ei, v1.length, v2.length, v3.length]
      simp only [List.size_toArray]
    subst en
    exact W.stops s (fun s1 => Inv X pins σ H s1) E ⟨hz, hTI, hTO, ⟨h1, p1⟩, ⟨h2, p2⟩, ⟨h3, p3.isList⟩⟩ fun h' tk hk _ =>
      I.turnedL (t' := tk) (ch := [z, TI, TO, i1, i2, i3]) (fun q o hq k => hk q o (fun m => hq (by
        simp only [List.mem_cons, List.not_mem_nil, or_false] at m ⊢
        rcases m with m | m | m | m | m <;> simp [m])) k) hf
  self := fun A i s Q E st h => wpAny_pyIter_zip st.1 h
def iZip3 (K : PySem.W.Frag) (ta : TA) : TI := fun σ H R => ta σ H fun vs H1 => ∃ a b c xs ys zs, vs = [.ref a, .ref b, .ref c] ∧ SqT K H1 a xs ∧ SqT K H1 b ys ∧ SqL K H1 c zs ∧ R (Itz3 K a b c) H1
/-- for x, y, z in zip(tuple, tuple, list) -/
theorem pi_zip3 {X : Cx} {e e2 e3 : Expr} {ta : TA} {p pos tpos : Pos} {elts : List Expr} {kk : Nat} (hg : Gl X "zip") (hm : X.mg "zip" = none) (ha : PA X [e, e2, e3] ta)
    (hs : starEach [e, e2, e3] X.env = (false, eval e X.env) :: starEach [e2, e3] X.env := by rfl) (hpl : (backTo pos (starEach [e2, e3] X.env)).any (·.1) = false := by rfl) :
    PI X (.Tuple elts kk tpos) (.Call (.Name "zip" p) [e, e2, e3] [] pos) (iZip3 X.K ta) := by
  refine ⟨fun pins s σ H R I h => ?_⟩
  refine Call_ (ld_blt I hg hm PyProof.Rows.boot_zip (PyProof.Rows.callWith_type1 (thn (ha.run pos pins s σ H _ I h) fun us s1 ⟨vs, H1, I1, r1, q1⟩ => ?_) hs hpl))
  obtain ⟨a, b, c, xs, ys, zs, rfl, qx, qy, qz, q⟩ := q1
  cases r1 with
  | cons r ra => cases ra with
  | cons r' rb => cases rb with
  | cons r'' rc =>
    cases rc
    cases r
    cases r'
    cases r''
    obtain ⟨is1, v1, p1, _⟩ := I1.tuple qx
    obtain ⟨is2, v2, p2, _⟩ := I1.tuple qy
    obtain ⟨is3, v3, p3, _⟩ := I1.list qz
    obtain ⟨o1, ho1, _⟩ := id p1
    obtain ⟨o2, ho2, _⟩ := id p2
    have la := Heap.lt_size ho1
    have lb := Heap.lt_size ho2
    have lc := p3.lt
    refine zip_begins3 (begins_tuple a is1.toArray) (begins_tuple b is2.toArray) (begins_list c is3.toArray) p1 p2 p3.isList fun h' hz hTI hTO h1 h2 h3 hsz hk => wpAny_pyIter_zip hz ?_
    have I2 : Inv X pins σ H1 { s1 with heap := h' } := I1.kept (t' := s1.toks) hk
    refine ⟨s1.heap.objs.size + 5, [s1.heap.objs.size + 5, s1.heap.objs.size + 3, s1.heap.objs.size + 4, s1.heap.objs.size, s1.heap.objs.size + 1, s1.heap.objs.size + 2], _, _, H1, rfl, I2,
      turn_zip3 (zip_sep3 (fun q hq => by rw [List.mem_singleton.mp hq]; exact la) (fun q hq => by rw [List.mem_singleton.mp hq]; exact lb) (fun q hq => by rw [List.mem_singleton.mp hq]; exact lc))
        (Nat.ne_of_lt la) (Nat.ne_of_lt (Nat.lt_succ_of_lt lb)) (Nat.ne_of_lt (Nat.lt_succ_of_lt (Nat.lt_succ_of_lt lc))),
      ⟨hz, hTI, ⟨_, _, _, hTO⟩, ⟨_, h1, rfl, rfl⟩, ⟨_, h2, rfl, rfl⟩, ⟨_, h3, rfl, rfl⟩⟩, fun q hq => ?_, q⟩
    have le : s1.heap.objs.size ≤ q := by
      simp only [List.mem_cons, List.not_mem_nil, or_false] at hq
      rcases hq with hq | hq | hq | hq | hq | hq <;> rw [hq] <;> first | exact Nat.le_refl _ | exact Nat.le_add_right _ _
    exact I1.fpOk le (I1.hok.fresh le)
/-- a new tuple of the three items -/
def YTri (xs ys zs : List V) : Nat → Hp → V → Hp → Prop := fun i H v H' => ∃ T x y z, v = .ref T ∧ H T = none ∧ H' = upd H T (.tup [x, y, z]) ∧ xs[i]? = some x ∧ ys[i]? = some y ∧ zs[i]? = some z
theorem walk_zip3 {K : PySem.W.Frag} {a b c : Addr} {xs ys zs : List V} {n : Nat} (hn : n = min (min xs.length ys.length) zs.length) :
    Walk (Itz3 K a b c) n (fun H => SqT K H a xs ∧ SqT K H b ys ∧ SqL K H c zs) (YTri xs ys zs) := by
  subst hn
  refine ⟨fun i _ hi q => ?_, fun _ q => ⟨xs, ys, zs, q.1, q.2.1, q.2.2, rfl⟩, fun i H v H' _ q y => ?_⟩
  · have h1 : i < xs.length := by omega
    have h2 : i < ys.length := by omega
    have h3 : i < zs.length := by omega
    exact ⟨xs, ys, zs, xs[i], ys[i], zs[i], q.1, q.2.1, q.2.2, by simp [h1], by simp [h2], by simp [h3]⟩
  · obtain ⟨T, x, y', z, e1, e2, e3, e4, e5, e6⟩ := y
    exact ⟨T, x, y', z, e1, e2, e3, e4 xs q.1, e5 ys q.2.1, e6 zs q.2.2⟩
end G
set_option maxHeartbeats 1000000
/-! len(set(t)) of a tuple of texts. -/
namespace G
open PySem PySem.Spec PyProof.Rows L2
/-- how many different ones -/
def ndR : List Str → Nat
  | [] => 0
  | x :: r => if x ∈ r then ndR r else ndR r + 1
def nd (l : List Str) : Nat := ndR l.reverse
theorem nd_add (l : List Str) (x : Str) : nd (l ++ [x]) = if x ∈ l then nd l else nd l + 1 := by
  simp [nd, ndR]
theorem ndR_le : ∀ l : List Str, ndR l ≤ l.length
  | [] => Nat.le_refl _
  | x :: r => by
    have := ndR_le r
    simp only [ndR, List.length_cons]
    split <;> omega
theorem nd_le (l : List Str) : nd l ≤ l.length := by
  have := ndR_le l.reverse
  simpa [nd] using this
theorem ndR_nodup : ∀ {l : List Str}, ndR l = l.length ↔ l.Nodup
  | [] => by simp [ndR]
  | x :: r => by
    have h1 := ndR_nodup (l := r)
    have h2 := ndR_le r
    simp only [ndR, List.length_cons, List.nodup_cons]
    split
    · rename_i h
      simp only [h, not_true_eq_false, false_and, iff_false]
      omega
    · rename_i h
      simp only [h, not_false_eq_true, true_and, ← h1]
      omega
theorem nd_nodup {l : List Str} : nd l = l.length ↔ l.Nodup := by
  have := ndR_nodup (l := l.reverse)
  rw [List.length_reverse, (List.reverse_perm l).nodup_iff] at this
  exact this
abbrev nO (led : Bool) : Obj := { cls := .type "set", dict := none, data := .set #[] 0 (.fresh 0 0 led) }
section
variable {P : Program} {w : World} {A : Around} {E : Value → Shared → Prop} {s : Shared} {R : Result → Shared → Prop}
theorem set_at {h h' : Heap} {S : Addr} {f : Str → Bool} {n : Nat} (R : h.SetOf (PySem.strKind P w) S f n) (k : ∀ o, h.get? S = some o → h'.get? S = some o) : h'.SetOf (PySem.strKind P w) S f n := by
  obtain ⟨o, es, ep, t, ho, r⟩ := R
  exact ⟨o, es, ep, t, k o ho, r⟩
theorem loopT {I : Addr} {fp wr : List Addr} {Gn : Array GenState → Array GenState → Prop} {n : Nat} {Pv : Nat → Value → Prop} {St : Nat → Shared → Prop}
    (W : WalksS P w A.in1 I fp wr Gn n Pv St) (S : Addr) (hSf : S ∉ fp) (xs : List Str) (hn : xs.length = n) (hb : xs.length + 1 < scanBound)
    (hval : ∀ i v, Pv i v → ∃ k t, xs[i]? = some k ∧ v = .str k t) :
    ∀ (k i : Nat) (s : Shared), n - i = k → i ≤ n → St i s → s.heap.SetOf (PySem.strKind P w) S (fun j => decide (j ∈ xs.take i)) (nd (xs.take i)) →
      (∀ s', Moved (S :: wr) Gn s s' → s'.heap.SetOf (PySem.strKind P w) S (fun j => decide (j ∈ xs)) (nd xs) → R (.ok (.ret .none)) s') →
      codeAny (model P w) A (.builtin "set.update.loop" ⟨[.ref S, .ref I], []⟩) R s := by
  have hSw : S ∉ wr := fun h => hSf (W.sub _ h)
  have hsub : ∀ b, b ∈ wr → b ∈ S :: wr := fun b hb => List.mem_cons_of_mem _ hb
  intro k
  induction k with
  | zero =>
    intro i s hk hi hst hS hR
    have hin : i = n := by omega
    subst hin
    refine codeAny_builtin F.entry_set_update_loop (?_ : _); rw [Around.under_plainId F.plain_set_update_loop _]
    show wpAny _ _ (pyNext (.ref I) >>= _) _ _ s; refine wpAny_bind (W.done s _ _ hst fun s' hm => ?_)
    show wpAny _ _ (ret Value.none) _ _ s'
    have e : xs.take i = xs := List.take_of_length_le (Nat.le_of_eq hn)
    rw [e] at hS
    exact wpAny_pure (hR s' (hm.mono hsub) (set_at hS fun o e => hm.heap S o hSw e))
  | succ k ih =>
    intro i s hk hi hst hS hR
    have hlt : i < n := by omega
    refine codeAny_builtin F.entry_set_update_loop (?_ : _); rw [Around.under_plainId F.plain_set_update_loop _]
    show wpAny _ _ (pyNext (.ref I) >>= _) _ _ s; refine wpAny_bind (W.item i s _ _ hlt hst fun v s' hP hst' hm => ?_)
    obtain ⟨z, t, hz, rfl⟩ := hval i v hP
    have hS' := set_at hS fun o e => hm.heap S o hSw e
    show wpAny _ _ (holding [Value.str z t] (setAdd S (.str z t)) >>= _) _ _ s'
    refine wpAny_bind (wpAny_holding ?_); unfold setAdd; refine wpAny_holding (wpAny_bind ((PySem.strKind P w).pyHash (k := z) (strKind_is _ _ _ _) ?_))
    have room : nd (xs.take i) + 1 < scanBound := by
      have h1 := nd_le (xs.take i)
      have h2 : (xs.take i).length ≤ xs.length := by simp; omega
      omega
    refine wpAny_setAddHashed_of (knd := PySem.strKind P w) (s := { s' with toks := s'.toks + 1 }) (strKind_is _ _ _ _) rfl hS' room fun h' hsb hS2 => ?_
    have tk : xs.take (i + 1) = xs.take i ++ [z] := take_next hz
    have hS3 : h'.SetOf (PySem.strKind P w) S (fun j => decide (j ∈ xs.take (i + 1))) (nd (xs.take (i + 1))) := by
      refine SetOf_congr hS2 (fun j => ?_) ?_
      · rw [tk]
        simp [List.mem_append, Bool.decide_or]
      · rw [tk, nd_add]
        by_cases m : z ∈ xs.take i <;> simp [m]
    refine wpAny_pure ⟨plainId_quiet F.plain_set_update_loop _, ih (i + 1) _ (by omega) hlt (W.frame _ s' _ _ hst' (Nat.le_succ _) fun b hb o e => ?_) hS3 fun s2 hm2 hS4 => ?_⟩
    · have nb : b ≠ S := fun h => hSf (h ▸ hb)
      rw [hsb.2 b nb]; exact e
    · refine hR s2 (Moved.trans W.gtrans ((hm.mono hsub).then_heap (Nat.le_succ _) fun b o hb e => ?_) hm2) hS4
      have nb : b ≠ S := fun h => hb (by rw [h]; exact List.mem_cons_self)
      rw [hsb.2 b nb]; exact e
theorem strs_get : ∀ {us : List Value} {xs : List Str}, StrsAre us xs → ∀ (i : Nat) (v : Value), us[i]? = some v → ∃ k t, xs[i]? = some k ∧ v = .str k t
  | _, _, .nil, i, v, h => by simp at h
  | _, _, .cons n t hr, 0, v, h => by simp at h; exact ⟨n, t, by simp, h.symm⟩
  | _, _, .cons n t hr, i + 1, v, h => by
    simp only [List.getElem?_cons_succ] at h ⊢
    exact strs_get hr i v h
theorem call_setT {l : Addr} {items : Array Value} {xs : List Str} {Q : Value → Shared → Prop} (hh : A.handled = none) (hl : s.heap.IsTuple l items) (hi : StrsAre items.toList xs) (hb : xs.length + 1 < scanBound)
    (h : ∀ (h' : Heap) (tk : Nat), h'.SetOf (PySem.strKind P w) s.heap.objs.size (fun j => decide (j ∈ xs)) (nd xs) →
      (∀ b o, b < s.heap.objs.size → s.heap.get? b = some o → h'.get? b = some o) → Q (.ref s.heap.objs.size) { s with heap := h', toks := tk }) :
    wpAny (model P w) A (call (.type "set") [.ref l]) Q E s := by
  obtain ⟨c, tl, hmro⟩ := PySem.F.called_set.mro
  have hmade := PySem.F.called_set.made; have hsub := PySem.F.called_set.sub
  refine wpAny_call (codeAny_of_tree (?_ : _)); show wpAny _ _ (callAny (.type "set") _) _ _ _
  refine wpAny_pure ⟨Code.quiet_builtin _ (by decide +kernel), codeAny_builtin PySem.F.entry_type_call (?_ : _)⟩
  rw [Around.under_plain (weight_type_call_type "set" [.ref l] []) (rfl : _)]
  have h1 := PySem.F.called_set.notType; have h2 := PySem.F.called_set.canCreate; have hct := PySem.F.typeCall_set_1 (.ref l)
  repeat (any_goals (first | assumption | wp_step)); skip
  refine codeAny_mono (code_set_new_1 (.ref l) (E := E) (Q₁ := fun obj s₁ => ∃ led : Bool, obj = .ref s.heap.objs.size ∧ s₁ = { s with heap := s.heap.push (nO led) }) fun led => ⟨led, rfl, rfl⟩) fun r s₁ hr => ?_
  cases r with
  | error e => exact hr
  | ok fl =>
    cases fl with
    | ret obj =>
      obtain ⟨led, rfl, rfl⟩ := hr
      have hS : (s.heap.push (nO led)).get? s.heap.objs.size = some (nO led) := Heap.get?_push_size _ rfl
      have hT : Shared.TypeIs { s with heap := s.heap.push (nO led) } (.ref s.heap.objs.size) "set" := ⟨_, hS, rfl⟩
      have hli := PySem.F.called_set.init.lookup; have hbi := PySem.F.called_set.init.bind (.ref s.heap.objs.size)
      repeat (any_goals (first | assumption | wp_step)); skip
      refine codeAny_mono (codeAny_call_builtin (R := wants (fun r s₂ => r = .none ∧ ∃ h' tk, s₂ = { s with heap := h', toks := tk } ∧ h'.SetOf (PySem.strKind P w) s.heap.objs.size (fun j => decide (j ∈ xs)) (nd xs) ∧
          (∀ b o, b < s.heap.objs.size → s.heap.get? b = some o → h'.get? b = some o)) E) PySem.F.called_set.init.plain PySem.F.entry_set_init (check_set_init_1 hT ?_)) fun r₂ s₂ hr₂ => ?_
      · obtain ⟨⟨ocls, odict, odata, oslots⟩, hol, hcl, nl, hdl⟩ := hl
        simp only at hcl hdl
        subst hcl hdl
        have hol' : (s.heap.push (nO led)).get? l = some { cls := .type "tuple", dict := odict, data := .seq items nl, slots := oslots } := Heap.get?_push_of_some _ hol
        have hsls := PySem.F.sub_tuple_set; have hslf := PySem.F.sub_tuple_frozenset
        have hne : (Value.type "tuple" == Value.type "dict") = false := (by decide)
        have hl1 : (s.heap.push (nO led)).IsTuple l items := ⟨_, hol', rfl, nl, rfl⟩
        unfold Builtin.«set.__init__» noKeywords Builtin.Frozenset.updateFrom; generalize hPI : pyIter = PI
        wp_walk
        subst hPI
        refine wpAny_pyIter_tuple hl1 (wpAny_bind (wpAny_runValue ?_))
        have hlS : l < s.heap.objs.size := Heap.lt_size hol
        have hh3 : A.in1.in1.in1.handled = none := (by simp [hh])
        have sz : (s.heap.push (nO led)).objs.size = s.heap.objs.size + 1 := Heap.size_push ..
        have hneI : l ≠ (s.heap.push (nO led)).objs.size := by rw [sz]; exact Nat.ne_of_lt (Nat.lt_succ_of_lt hlS)
        have hSf : s.heap.objs.size ∉ [(s.heap.push (nO led)).objs.size, l] := by
          rw [sz]; simp only [List.mem_cons, List.not_mem_nil, or_false, not_or]
          exact ⟨Nat.ne_of_lt (Nat.lt_succ_self _), Nat.ne_of_gt hlS⟩
        have hsz : xs.length = items.size := by rw [← StrsAre.len_eq hi, Array.length_toList]
        refine loopT ((Walks.tuple hh3 _ l hneI items).toS) s.heap.objs.size hSf xs hsz hb (fun i v hv => strs_get hi i v (by rw [Array.getElem?_toList]; exact hv)) (items.size - 0) 0 _ (by omega) (Nat.zero_le _)
          ⟨⟨_, Heap.get?_push_size _ rfl, rfl, rfl⟩, (hl1.push _)⟩ ?hS0 ?hR
        case hS0 =>
          have hget : ((s.heap.push (nO led)).push { cls := .type "tuple_iterator", data := .fields #[.ref l, .int 0 0] }).get? s.heap.objs.size = some (nO led) := Heap.get?_push_of_some _ hS
          exact SetOf_congr ((setObjOf_fresh (knd := PySem.strKind P w) led).setOf hget (by unfold scanBound; omega)) (fun _ => by simp) rfl
        case hR =>
          intro s' hm hS'
          obtain ⟨h', g', d', tk', os'⟩ := s'
          have eg : g' = s.gens := hm.gens
          have ed : d' = s.drawn := hm.drawn
          have eo : os' = s.os := hm.os
          subst eg ed eo
          show wpAny _ _ _ _ _ _
          refine wpAny_pure (?_ : _)
          show wpAny _ _ (ret Value.none) _ _ _; refine wpAny_pure ⟨rfl, h', tk', rfl, hS', fun b o hb e => ?_⟩
          refine hm.heap b o ?_ (Heap.get?_push_of_some _ (Heap.get?_push_of_some _ e))
          rw [sz]; simp only [List.mem_cons, List.not_mem_nil, or_false, not_or]
          exact ⟨Nat.ne_of_lt hb, Nat.ne_of_lt (Nat.lt_succ_of_lt hb)⟩
      · cases r₂ with
        | error e => exact hr₂
        | ok fl₂ =>
          cases fl₂ with
          | ret r =>
            obtain ⟨rfl, h', tk, rfl, hS', hk'⟩ := hr₂
            repeat (any_goals (first | assumption | wp_step)); skip
            exact h _ _ hS' hk'
          | _ => exact hr₂.elim
    | _ => exact hr.elim
end
/-- len(set(t)), t a tuple of texts -/
def tLenSetT (K : PySem.W.Frag) (ta : TE) : TE := fun σ H Q => ta σ H fun x H1 => ∃ (l : Addr) (xs : List Str), x = .ref l ∧ SqT K H1 l (xs.map V.str) ∧ xs.length ≤ 1000 ∧ Q (.int (nd xs : Nat)) H1
theorem pe_lenSetT {X : Cx} {a : Expr} {ta : TE} {p p2 q pos : Pos} (hg : Gl X "len") (hm : X.mg "len" = none) (hg2 : Gl X "set") (hm2 : X.mg "set" = none) (ha : PE X a ta) (hc : X.calm = true := by rfl)
    (na : starEach [a] X.env = (false, eval a X.env) :: starEach [] X.env := by rfl) : PE X (.Call (.Name "len" p) [.Call (.Name "set" p2) [a] [] q] [] pos) (tLenSetT X.K ta) := by
  refine ⟨fun pins s σ H Q I h => ?_⟩
  refine Call_ (ld_blt I hg hm boot_len (PyProof.Rows.callWith_builtin1 (PyProof.Rows.args_cons ?_ rfl) rfl rfl))
  refine Call_ (ld_blt I hg2 hm2 boot_set (PyProof.Rows.callWith_type1 (PyProof.Rows.args_cons (thn (ha.run pins s σ H _ I h) fun v s1 ⟨x, H1, I1, r1, q1⟩ => PyProof.Rows.args_nil ?_) na) na rfl))
  obtain ⟨l, xs, rfl, hq, hl, q1⟩ := q1
  cases r1
  obtain ⟨its, r, pl, hz⟩ := I1.tuple hq
  refine call_setT (I1.ok.hd hc) pl (by simpa using strsAre_of r) (by unfold scanBound; omega) fun h' tk hS hk => PyProof.Rows.args_nil ?_
  obtain ⟨o, es, ep, t, ho, hex, hd, _, _, _, hf, hn⟩ := hS
  have I2 : Inv X pins σ H1 { s1 with heap := h', toks := tk } := I1.kept fun b o e => hk b o (Heap.lt_size e) e
  have le := nd_le xs
  exact call_len_set ho hex hd hf (by rw [hn]; omega) ⟨.int (nd xs : Nat), H1, I2.tok _, ⟨_, by rw [hn]⟩, q1⟩
end G
set_option maxHeartbeats 400000
/-! == of dicts of data, == by an own __eq__. -/
namespace G
open PySem PySem.Spec PyProof.Rows L2
def eqAll : List PyData → List PyData → Bool
  | [], [] => true
  | d :: ds, e :: es => PyData.eqv d e && eqAll ds es
  | _, _ => false
theorem valV_mem {ls : List (Key × V)} (n : (ls.map (·.1)).Nodup) : ∀ q ∈ ls, valV ls q.1 = some q.2 := by
  induction ls with
  | nil => intro q h; cases h
  | cons p r ih =>
    rw [List.map_cons, List.nodup_cons] at n
    intro q hq
    rcases List.mem_cons.mp hq with rfl | hq
    · simp [valV]
    · have ne : p.1 ≠ q.1 := fun e => n.1 (by rw [e]; exact List.mem_map_of_mem hq)
      have := ih n.2 q hq
      simp only [valV] at this ⊢
      rw [List.find?_cons_of_neg (by simpa using ne)]
      exact this
section
variable {X : Cx} {pins : List (Addr × Obj)} {σ : L2.St} {H : Hp} {s : Shared}
theorem hits_go (I : Inv X pins σ H s) {A : Around} (hu : A.units + 20 < cLine) {ls : List (Key × V)} {vb : List (Key × Value)} (rb : KV ls vb) :
    ∀ (ks ls' : List (Key × V)) (va : List (Key × Value)) (ds es : List PyData), KV ks va → ks.map (·.1) = ls'.map (·.1) → (∀ q ∈ ls', valV ls q.1 = some q.2) →
      DpAll X.K H (ks.map (·.2)) ds → DpAll X.K H (ls'.map (·.2)) es → (∀ d ∈ ds, d.canLay0 = true ∧ d.depth ≤ 20) → (∀ d ∈ es, d.canLay0 = true ∧ d.depth ≤ 20) →
      PySem.W.KeqHitsP X.prog X.w A s vb va (eqAll ds es)
  | [], [], va, ds, es, ra, _, _, hd, he, _, _ => by
    cases ra
    cases hd
    cases he
    exact .nil
  | [], _ :: _, _, _, _, _, e, _, _, _, _, _ => by cases e
  | _ :: _, [], _, _, _, _, e, _, _, _, _, _ => by cases e
  | p :: ks, q :: ls', va, ds, es, ra, ek, hv, hd, he, sd, se => by
    cases ra with
    | @cons _ b _ vs h t =>
      obtain ⟨h1, h2⟩ := h
      obtain ⟨key, v⟩ := b
      rw [List.map_cons] at hd he
      rw [List.map_cons, List.map_cons] at ek
      injection ek with e1 e2
      cases hd with
      | @cons _ _ d dr hd1 hd2 =>
        cases he with
        | @cons _ _ e er he1 he2 =>
          have rr : RelO (some q.2) (valueAt vb q.1) := by rw [← hv q List.mem_cons_self]; exact rb.val q.1
          obtain ⟨y, hy, ry⟩ := rr.some_of
          have hk : key = q.1 := by rw [← e1]; exact h1.symm
          obtain ⟨as, r1⟩ := Dp.reads I d p.2 v hd1 h2
          obtain ⟨bs, r2⟩ := Dp.reads I e q.2 y he1 ry
          refine .hit (by rw [hk]; exact hy) ?_ (hits_go I hu rb ks ls' vs dr er t e2 (fun z hz => hv z (List.mem_cons_of_mem _ hz)) hd2 he2 (fun z hz => sd z (List.mem_cons_of_mem _ hz)) fun z hz => se z (List.mem_cons_of_mem _ hz))
          have d20 := (sd d List.mem_cons_self).2
          exact (SeqAt.eqAt_reads d e A s v y as bs r1 r2 (sd d List.mem_cons_self).1 (se e List.mem_cons_self).1 (by have := Nat.min_le_left d.depth e.depth; omega)).eqP
end
/-- a == b, two dicts of the same keys in the same order -/
def rEqDk (K : PySem.W.Frag) : R2 := fun x y H Q => ∃ a b ks ls ds es, x = .ref a ∧ y = .ref b ∧ H a = some (.dK ks) ∧ H b = some (.dK ls) ∧ ks.map (·.1) = ls.map (·.1) ∧ (ls.map (·.1)).Nodup ∧
  DpAll K H (ks.map (·.2)) ds ∧ DpAll K H (ls.map (·.2)) es ∧ (∀ d ∈ ds, d.canLay0 = true ∧ d.depth ≤ 20) ∧ (∀ d ∈ es, d.canLay0 = true ∧ d.depth ≤ 20) ∧ Q (.bl (eqAll ds es)) H
section
variable {X : Cx}
theorem op_eqDk (hu : X.A.units + 64 < cLine) : OpR X (compareOp .Eq) (rEqDk X.K) := by
  intro pins s σ H x y v u Q I rx ry h
  obtain ⟨a, b, ks, ls, ds, es, rfl, rfl, ha, hb, ek, n, hd, he, sd, se, q⟩ := h
  cases (show v = Value.ref a from rx)
  cases (show u = Value.ref b from ry)
  obtain ⟨_, ya, va, ra, da⟩ := (show ObjOk X.prog X.w H s.heap a (.dK ks) from I.hok a _ ha)
  obtain ⟨_, yb, vb, rb, db⟩ := (show ObjOk X.prog X.w H s.heap b (.dK ls) from I.hok b _ hb)
  refine PySem.W.rcP_dicts (knd := mixKind X.prog X.w) (r := eqAll ds es) ya yb da db (by omega) (fun _ => hits_go I (A := X.A.in1) (by show X.A.units + 1 + 20 < cLine; omega) rb ks ls va ds es ra ek (valV_mem n) hd he sd se) _ _ ?_
  have e : va.length = vb.length := by
    rw [← ra.length, ← rb.length]
    have := congrArg List.length ek
    simpa using this
  rw [show (va.length == vb.length && eqAll ds es) = eqAll ds es from by rw [e]; simp]
  exact ⟨.bl (eqAll ds es), H, I, rfl, q⟩
/-- x == y by the class's own __eq__ -/
def rOwnEq (C : Addr) (sp : Sp) (E : XK) : R2 := fun x y H Q => ∃ a b dx dy fs gs, x = .ref a ∧ y = .ref b ∧ H a = some (.ins C dx fs) ∧ H b = some (.ins C dy gs) ∧ sp [.ref a, .ref b] H (fun v H' => ∃ r, v = .bl r ∧ Q (.bl r) H') E
theorem op_ownEq {CX : CXT} {C f : Addr} {fd : FuncData} {ps : List Str} {n : Nat} {sp : Sp} {E : XK} (F : FnOk X.prog X.w X.K X.mg X.base CX n f fd ps sp) (hr : Room n X.A)
    (hs : PySem.W.findIn X.K (.ref C) "__eq__" = some (some (.ref f))) (hf : PySem.W.isFn X.K (.ref f) = true) (hb : Binds X.K fd ps []) (hx : Passes CX X E) : OpR X (compareOp .Eq) (rOwnEq C sp E) := by
  intro pins s σ H x y v u Q I rx ry h
  obtain ⟨a, b, dx, dy, fs, gs, rfl, rfl, ha, hb', hsp⟩ := h
  cases (show v = Value.ref a from rx)
  cases (show u = Value.ref b from ry)
  obtain ⟨mA, J, _⟩ := ins_get I.hok ha
  obtain ⟨mB, J', _⟩ := ins_get I.hok hb'
  obtain ⟨od, J, _⟩ := J.look
  obtain ⟨od', J', _⟩ := J'.look
  obtain ⟨m, hF⟩ := I.fr
  show wpAny (model X.prog X.w) X.A (richCompare .Eq (.ref a) (.ref b)) (EP X pins σ Q) X.xe s
  refine PySem.W.cmp_K (op := .Eq) (tb := .ref C) hr.units0 hF I.ok.mod.kin J J'.type (by simp [PySem.W.notFirst]) hs hf ?_
  have hl := F.len _ _ _ _ hsp
  refine wpAny_call (codeAny_mono (F.run X.A X.stack s H ⟨[.ref a, .ref b], []⟩ [.ref a, .ref b] [.ref a, .ref b] _ E hr I.env0 (by
    have := hb s [.ref a, .ref b] I.kIn (by simpa using hl)
    simpa using this) (.cons rfl (.cons rfl .nil)) hsp) fun r s' hq => ?_)
  cases r with
  | error e => exact hx pins σ H s e s' I hq
  | ok fl =>
    cases fl with
    | ret w =>
      obtain ⟨z, H', I', rz, r, ez, q⟩ := I.after hq
      subst ez
      cases rz
      exact ⟨.bl r, H', I', rfl, q⟩
    | next => exact False.elim hq
    | brk => exact False.elim hq
    | cont => exact False.elim hq
end
end G
set_option maxHeartbeats 1000000
/-! Defs and methods in short: what is known of one in one hypothesis; own errors of any base raised; a method that may raise. -/
namespace G
open PySem PySem.Spec PyProof.Rows PySem.Calls PySem.W L2

section
variable {P : Program} {w : World} {K : Frag} {mg : Str → Option Value} {base : Heap}
/-- the def x keeps the promise sp -/
structure Dn (P : Program) (w : World) (K : Frag) (mg : Str → Option Value) (base : Heap) (CX : CXT) (k : Nat) (x : Str) (ps : List Str) (sp : Sp) : Prop where
  ex : ∃ (f : Addr) (fd : FuncData), FnOk P w K mg base CX k f fd ps sp ∧ keepIn K (.ref f) = true ∧ mg x = some (.ref f) ∧ Binds K fd ps []
/-- .. where no repr is under way -/
structure Gn (P : Program) (w : World) (K : Frag) (mg : Str → Option Value) (base : Heap) (CX : CXT) (k : Nat) (x : Str) (ps : List Str) (sp : Sp) : Prop where
  ex : ∃ (f : Addr) (fd : FuncData), FnG P w K mg base CX k f fd ps sp ∧ keepIn K (.ref f) = true ∧ mg x = some (.ref f) ∧ Binds K fd ps []
/-- the text st stands under the name x -/
structure Df (K : Frag) (mg : Str → Option Value) (x : Str) (st : Stmt) (ps : List Str) : Prop where
  ex : ∃ (f : Addr) (fd : FuncData), Fun K x x st f fd ∧ mg x = some (.ref f) ∧ Binds K fd ps []
/-- the method m of the class at C -/
structure Mn (P : Program) (w : World) (K : Frag) (mg : Str → Option Value) (base : Heap) (CX : CXT) (k : Nat) (C : Addr) (m : Str) (ps : List Str) (sp : Sp) : Prop where
  ex : ∃ (f : Addr) (fd : FuncData), FnOk P w K mg base CX k f fd ps sp ∧ Meth K C m f ∧ Binds K fd ps []
structure Mf (K : Frag) (C : Addr) (m ql : Str) (st : Stmt) (ps : List Str) : Prop where
  ex : ∃ (f : Addr) (fd : FuncData), Fun K m ql st f fd ∧ Meth K C m f ∧ Binds K fd ps []
theorem FnOk.calm {k : Nat} {f : Addr} {fd : FuncData} {ps : List Str} {sp : Sp} (F : FnOk P w K mg base (L2.CX P w) k f fd ps sp) : FnOk P w K mg base CX0 k f fd ps (fun vs H Q _ => sp vs H Q E0) := by
  refine ⟨fun vs H Q E h => F.len vs H Q E0 h, fun A ou st H ar ys xs Q E r ev bt vl h => codeAny_mono (F.run A ou st H ar ys xs Q E0 r ev bt vl h) fun res s' z => ?_⟩
  cases res with
  | error e =>
    obtain ⟨a, B, H', cls, d, _, _, _, _, _, _, _, z⟩ := z
    exact z.elim
  | ok fl => cases fl <;> exact z
theorem Dn.calm {k : Nat} {x : Str} {ps : List Str} {sp : Sp} (D : Dn P w K mg base (L2.CX P w) k x ps sp) : Dn P w K mg base CX0 k x ps (fun vs H Q _ => sp vs H Q E0) := by
  obtain ⟨f, fd, h1, h2⟩ := D.ex
  exact ⟨f, fd, FnOk.calm h1, h2⟩
theorem Mn.calm {k : Nat} {C : Addr} {x : Str} {ps : List Str} {sp : Sp} (D : Mn P w K mg base (L2.CX P w) k C x ps sp) : Mn P w K mg base CX0 k C x ps (fun vs H Q _ => sp vs H Q E0) := by
  obtain ⟨f, fd, h1, h2⟩ := D.ex
  exact ⟨f, fd, FnOk.calm h1, h2⟩
theorem Dn.gn {CX : CXT} {k : Nat} {x : Str} {ps : List Str} {sp : Sp} (D : Dn P w K mg base CX k x ps sp) : Gn P w K mg base CX k x ps sp := by
  obtain ⟨f, fd, h1, h2⟩ := D.ex
  exact ⟨f, fd, .of h1, h2⟩
theorem Df.ok {x : Str} {st : Stmt} {N ps : List Str} {k : Nat} {sp : Sp} (F : Df K mg x st ps) (S : FnScope N ps (defScope st)) (len : ∀ vs H Q E, sp vs H Q E → vs.length = ps.length)
    (hb : ∀ (f : Addr) (cdv : Value) (A : Around) (ou : List Env) (s : Shared) (H : Hp) (vs : List V) (Q : VK) (E : XK), Room k (A.deeper (envOfC x (defScope st) s.heap.objs.size f cdv)) → sp vs H Q E →
      ∃ t, PSs (cxOf CX0 P w K mg base N x (defScope st) f cdv A ou s H E).nox (defBody st) t ∧ t { nx := fun _ J => Q .non J, rt := Q } (start N vs) H) : Dn P w K mg base CX0 (k + 1) x ps sp := by
  obtain ⟨f, fd, h1, h2, h3⟩ := F.ex
  exact ⟨f, fd, h1.ok S len (hb f), h1.kp, h2, h3⟩
theorem Df.okX {x : Str} {st : Stmt} {N ps : List Str} {k : Nat} {sp : Sp} (F : Df K mg x st ps) (S : FnScope N ps (defScope st)) (len : ∀ vs H Q E, sp vs H Q E → vs.length = ps.length)
    (hb : ∀ (f : Addr) (cdv : Value) (A : Around) (ou : List Env) (s : Shared) (H : Hp) (vs : List V) (Q : VK) (E : XK), Room k (A.deeper (envOfC x (defScope st) s.heap.objs.size f cdv)) → sp vs H Q E →
      ∃ t, PSs (cxOf (L2.CX P w) P w K mg base N x (defScope st) f cdv A ou s H E) (defBody st) t ∧ t { nx := fun _ J => Q .non J, rt := Q } (start N vs) H) : Dn P w K mg base (L2.CX P w) (k + 1) x ps sp := by
  obtain ⟨f, fd, h1, h2, h3⟩ := F.ex
  exact ⟨f, fd, h1.okX S len (hb f), h1.kp, h2, h3⟩
theorem Df.okG {x : Str} {st : Stmt} {N ps : List Str} {k : Nat} {sp : Sp} (F : Df K mg x st ps) (S : FnScope N ps (defScope st)) (len : ∀ vs H Q E, sp vs H Q E → vs.length = ps.length)
    (hb : ∀ (f : Addr) (cdv : Value) (A : Around) (ou : List Env) (s : Shared) (H : Hp) (vs : List V) (Q : VK) (E : XK), A.guards = some [] → Room k (A.deeper (envOfC x (defScope st) s.heap.objs.size f cdv)) → sp vs H Q E →
      ∃ t, PSs (cxOf CX0 P w K mg base N x (defScope st) f cdv A ou s H E).nox (defBody st) t ∧ t { nx := fun _ J => Q .non J, rt := Q } (start N vs) H) : Gn P w K mg base CX0 (k + 1) x ps sp := by
  obtain ⟨f, fd, h1, h2, h3⟩ := F.ex
  exact ⟨f, fd, G.okG h1 S len (hb f), h1.kp, h2, h3⟩
theorem Mf.ok {C : Addr} {m ql : Str} {st : Stmt} {N ps : List Str} {k : Nat} {sp : Sp} (F : Mf K C m ql st ps) (S : FnScope N ps (defScope st)) (len : ∀ vs H Q E, sp vs H Q E → vs.length = ps.length)
    (hb : ∀ (f : Addr) (cdv : Value) (A : Around) (ou : List Env) (s : Shared) (H : Hp) (vs : List V) (Q : VK) (E : XK), Room k (A.deeper (envOfC ql (defScope st) s.heap.objs.size f cdv)) → sp vs H Q E →
      ∃ t, PSs (cxOf CX0 P w K mg base N ql (defScope st) f cdv A ou s H E).nox (defBody st) t ∧ t { nx := fun _ J => Q .non J, rt := Q } (start N vs) H) : Mn P w K mg base CX0 (k + 1) C m ps sp := by
  obtain ⟨f, fd, h1, h2⟩ := F.ex
  exact ⟨f, fd, h1.ok S len (hb f), h2⟩
theorem Mf.okX {C : Addr} {m ql : Str} {st : Stmt} {N ps : List Str} {k : Nat} {sp : Sp} (F : Mf K C m ql st ps) (S : FnScope N ps (defScope st)) (len : ∀ vs H Q E, sp vs H Q E → vs.length = ps.length)
    (hb : ∀ (f : Addr) (cdv : Value) (A : Around) (ou : List Env) (s : Shared) (H : Hp) (vs : List V) (Q : VK) (E : XK), Room k (A.deeper (envOfC ql (defScope st) s.heap.objs.size f cdv)) → sp vs H Q E →
      ∃ t, PSs (cxOf (L2.CX P w) P w K mg base N ql (defScope st) f cdv A ou s H E) (defBody st) t ∧ t { nx := fun _ J => Q .non J, rt := Q } (start N vs) H) : Mn P w K mg base (L2.CX P w) (k + 1) C m ps sp := by
  obtain ⟨f, fd, h1, h2⟩ := F.ex
  exact ⟨f, fd, h1.okX S len (hb f), h2⟩
end
section
variable {X : Cx} {CX : CXT} {k j : Nat} {ps : List Str} {sp : Sp} {E : XK} {x m : Str} {p pos apos : Pos} {e o : Expr} {es : List Expr} {ta : TE} {t : TA} {C : Addr}
theorem pe_cD (D : Dn X.prog X.w X.K X.mg X.base CX k x ps sp) (hr : Room j X.A) (hx : Passes CX X E) (ha : PA X (e :: es) t) (kj : k ≤ j := by decide) (hg : Gl X x := by rfl) (n1 : (x == ("__debug__" : Str)) = false := by decide)
    (n2 : starEach (e :: es) X.env = (false, eval e X.env) :: starEach es X.env := by rfl) (n3 : (backTo pos (starEach es X.env)).any (·.1) = false := by rfl) :
    PE X (.Call (.Name x p) (e :: es) [] pos) (tCall sp [] E t) := by
  obtain ⟨f, fd, h1, h2, h3, h4⟩ := D.ex
  exact pe_call h1 (hr.mono kj) hg h3 h2 h4 .nil hx ha n1 n2 n3
theorem pe_cG (D : Gn X.prog X.w X.K X.mg X.base CX k x ps sp) (gd : X.A.guards = some []) (hr : Room j X.A) (hx : Passes CX X E) (ha : PA X (e :: es) t) (kj : k ≤ j := by decide) (hg : Gl X x := by rfl) (n1 : (x == ("__debug__" : Str)) = false := by decide)
    (n2 : starEach (e :: es) X.env = (false, eval e X.env) :: starEach es X.env := by rfl) (n3 : (backTo pos (starEach es X.env)).any (·.1) = false := by rfl) :
    PE X (.Call (.Name x p) (e :: es) [] pos) (tCall sp [] E t) := by
  obtain ⟨f, fd, h1, h2, h3, h4⟩ := D.ex
  exact pe_callG h1 gd (hr.mono kj) hg h3 h2 h4 .nil hx ha n1 n2 n3
theorem pe_mD {pl : Sem Bool} (he : PE X o ta) (c : Cls X.K C) (D : Mn X.prog X.w X.K X.mg X.base CX k C m ps sp) (hr : Room j X.A) (hx : Passes CX X E) (ha : PA X (e :: es) t) (kj : k ≤ j := by decide)
    (n2 : starEach (e :: es) X.env = (false, eval e X.env) :: starEach es X.env := by rfl) (n3 : (backTo pos (starEach es X.env)).any (·.1) = false := by rfl)
    (ht : eval (.Call (.Attribute o m apos) (e :: es) [] pos) X.env = (do
      let ov ← eval o X.env; standAt apos.atName
      let (f, first) ← holding [ov] (getMethod ov m pl); callWith pos f first (backTo pos (starEach (e :: es) X.env)) (backToKw pos (keywordEach [] X.env))) := by rfl) :
    PE X (.Call (.Attribute o m apos) (e :: es) [] pos) (tMeth C m sp [] E ta t) := by
  obtain ⟨f, fd, h1, h2, h3⟩ := D.ex
  exact pe_meth he c h2 h1 (hr.mono kj) h3 .nil hx ha n2 n3 ht
theorem pe_mD0 {pl : Sem Bool} (he : PE X o ta) (c : Cls X.K C) (D : Mn X.prog X.w X.K X.mg X.base CX k C m ps sp) (hr : Room j X.A) (hx : Passes CX X E) (kj : k ≤ j := by decide)
    (ht : eval (.Call (.Attribute o m apos) [] [] pos) X.env = (do
      let ov ← eval o X.env; standAt apos.atName
      let (f, first) ← holding [ov] (getMethod ov m pl); callWith pos f first (backTo pos (starEach [] X.env)) (backToKw pos (keywordEach [] X.env))) := by rfl) :
    PE X (.Call (.Attribute o m apos) [] [] pos) (tMeth C m sp [] E ta tNil) := by
  obtain ⟨f, fd, h1, h2, h3⟩ := D.ex
  exact pe_meth0 he c h2 h1 (hr.mono kj) h3 .nil hx ht
/-- o.m(..) of a method that may raise, what is wished at the caller's slots -/
def tMethS (C : Addr) (m : Str) (sp : Sp) (E : L2.St → XK) (ta : TE) (t : TA) : TE := fun σ H Q => ta σ H fun x H1 => ∃ a dx fs, x = .ref a ∧ H1 a = some (.ins C dx fs) ∧ fs.lookup m = none ∧ t σ H1 fun vs H2 => sp (x :: vs) H2 Q (E σ)
theorem pe_mS {pl : Sem Bool} {E : L2.St → XK} (he : PE X o ta) (c : Cls X.K C) (D : Mn X.prog X.w X.K X.mg X.base CX k C m ps sp) (hr : Room j X.A) (hx : ∀ σ, PassesAt CX X σ (E σ)) (ha : PA X (e :: es) t) (kj : k ≤ j := by decide)
    (n2 : starEach (e :: es) X.env = (false, eval e X.env) :: starEach es X.env := by rfl) (n3 : (backTo pos (starEach es X.env)).any (·.1) = false := by rfl)
    (ht : eval (.Call (.Attribute o m apos) (e :: es) [] pos) X.env = (do
      let ov ← eval o X.env; standAt apos.atName
      let (f, first) ← holding [ov] (getMethod ov m pl); callWith pos f first (backTo pos (starEach (e :: es) X.env)) (backToKw pos (keywordEach [] X.env))) := by rfl) :
    PE X (.Call (.Attribute o m apos) (e :: es) [] pos) (tMethS C m sp E ta t) := by
  obtain ⟨f, fd, h1, h2, h3⟩ := D.ex
  refine ⟨fun pins s σ H Q I h => ?_⟩
  refine methodCall_KW (pl := pl) (thn (he.run pins s σ H _ I h) fun u s1 ⟨x, H1, I1, rx, a, dx, fs, ex, ea, l, q⟩ => ?_) ht
  subst ex
  obtain rfl : u = Value.ref a := rx
  refine getmeth_ok I1 ea c h2 l (callWith_K (first := [.ref a]) (h₀ := X.base) I.ok.mod.kin h2.kp (thn (ha.run pos pins s1 σ H1 _ I1 q) fun us s2 ⟨vs, H2, I2, r, q2⟩ => ⟨I2.kIn, ?_⟩) n2 n3)
  exact run_fnS (us := .ref a :: us) (vs := .ref a :: vs) h1 (hr.mono kj) h3 (hx σ) I2 (.cons rfl r) q2
/-- C(e, ..), C a class with an own __init__ -/
theorem pe_mkD {nm : Str} {f : Addr} {fd : FuncData} (M : Mk X.K C f) (F : FnOk X.prog X.w X.K X.mg X.base CX k f fd ps sp) (hb : Binds X.K fd ps []) (hr : Room j X.A) (hm : X.mg nm = some (.ref C)) (hx : Passes CX X E) (ha : PA X (e :: es) t) (kj : k + 1 ≤ j := by decide) (hg : Gl X nm := by rfl)
    (n1 : (nm == ("__debug__" : Str)) = false := by decide) (n2 : starEach (e :: es) X.env = (false, eval e X.env) :: starEach es X.env := by rfl) (n3 : (backTo pos (starEach es X.env)).any (·.1) = false := by rfl) :
    PE X (.Call (.Name nm p) (e :: es) [] pos) (tMake C sp [] E t) :=
  pe_make M F (hr.mono kj) hg hm hb .nil hx ha n1 n2 n3
end
/-! ### own errors of any base, raised -/
section
variable {X : Cx} {e : Expr} {es : List Expr} {ta : TA} {p pos : Pos} {x : Str} {C fI : Addr} {k : Nat} {fd : FuncData} {ps : List Str} {sp : Sp}
theorem pmk_oexG (T : OexG X.K C) (iC : findIn X.K (.ref C) "__init__" = some (some (.ref fI))) (tI : typeIn X.K (.ref fI) = some (.type "function")) (F1 : FnOk X.prog X.w X.K X.mg X.base CX0 k fI fd ps sp) (hr : Room (k + 1) X.A) (hb : Binds X.K fd ps [])
    (hg : Gl X x) (hm : X.mg x = some (.ref C)) (ha : PA X (e :: es) ta) (n1 : (x == ("__debug__" : Str)) = false := by decide) (n2 : starEach (e :: es) X.env = (false, eval e X.env) :: starEach es X.env := by rfl)
    (n3 : (backTo pos (starEach es X.env)).any (·.1) = false := by rfl) : PMk X (.Call (.Name x p) (e :: es) [] pos) (tMkO C sp [] ta) := by
  intro pins s σ H Q I h
  obtain ⟨B, nw, ini, bm, bx, qi, _⟩ := T.base
  refine wpAny_Call_Name_kw (ld_glob I hg hm (callWith_K (h₀ := X.base) I.ok.mod.kin T.kp (thn (ha.run pos pins s σ H _ I h) fun us s1 z1 => ?_) n2 n3) n1)
  obtain ⟨vs, H1, I1, r1, hz, q1⟩ := z1
  refine ⟨I1.kIn, ?_⟩
  obtain ⟨nm, N, qn, bs, bmC, hdct, sn, sub, ab, col, dd, k0, k1, k2, k3, k5, hC, hT⟩ := excInit_of I1.kIn qi
  show wpAny _ _ (call (.ref C) us) _ _ _
  obtain ⟨hp, g, dr, tk, os⟩ := s1
  generalize hA : hp.objs.size + 1 = a
  have big : hp.objs.size ≤ a := by omega
  have hq := q1 a (I1.hok.fresh big)
  have keep : ∀ b o, hp.get? b = some o → ((hp.push (kdv_tup us)).push (HandSPX.excO C hp.objs.size)).get? b = some o := fun b o q => Heap.get?_push_of_some _ (Heap.get?_push_of_some _ q)
  have now : ((hp.push (kdv_tup us)).push (HandSPX.excO C hp.objs.size)).get? a = some (HandSPX.excO C hp.objs.size) := by
    rw [← hA]
    heap_get
  have I2 : Inv X pins σ (upd H1 a (exo a C none)) ⟨(hp.push (kdv_tup us)).push (HandSPX.excO C hp.objs.size), g, dr, tk, os⟩ :=
    I1.laid (t' := tk) (a := a) (o := exo a C none) (h' := (hp.push (kdv_tup us)).push (HandSPX.excO C hp.objs.size)) keep big (exo_ok now)
  have r2 : Vals (V.ref a :: (vs ++ [])) (Value.ref a :: us) := .cons rfl (by simpa using r1)
  have hl : (Value.ref a :: us).length = ps.length := by
    rw [← r2.length]
    exact F1.len _ _ _ _ hq
  have hus : us.length ≤ sizeLine := by
    rw [← r1.length, sizeLine_eq]
    omega
  have bd : BindsTo ⟨(hp.push (kdv_tup us)).push (HandSPX.excO C hp.objs.size), g, dr, tk, os⟩ fd ⟨Value.ref a :: us, []⟩ (ps.zip (Value.ref a :: us)) := by
    have := hb ⟨(hp.push (kdv_tup us)).push (HandSPX.excO C hp.objs.size), g, dr, tk, os⟩ (Value.ref a :: us) I2.kIn (by simpa using hl)
    simpa using this
  refine wpAny_call (HandSPX.call_own bx.f hT hC (looks_findIn I1.kIn iC) (fun self => bind_fn I1.kIn self tI) hus ?_)
  rw [hA]
  refine codeAny_mono (F1.run _ X.stack _ _ ⟨Value.ref a :: us, []⟩ (Value.ref a :: us) _ _ (fun _ _ _ => False) (hr.make C us []) (I2.env0.make C us []) bd r2 hq) fun r s' z => ?_
  cases r with
  | error er => exact False.elim z
  | ok fl =>
    cases fl with
    | ret u =>
      obtain ⟨v, H2, os2, bare2, un2, hok2, rv, ev, d, fs, ea, ed, hd1, q2⟩ := z
      subst ev
      obtain ⟨h2, g2, d2, t2, os'⟩ := s'
      exact ⟨rv, mk_end (raises_own T.ex T.ty) I1 big keep un2 hok2 os2 bare2 ea ed hd1 q2⟩
    | next => exact False.elim z
    | brk => exact False.elim z
    | cont => exact False.elim z
variable {W : WX} {nm f g : Str} {e2 : Expr} {te te2 : TE} {np pos2 : Pos}
/-- raise C(e) -/
theorem ps_raise1 (hc : X.calm = true) (T : XV1 X.prog X.w X.K X.mg X.base nm C f) {j : Nat} (hr : Room j X.A) (tk : Takes X W) (he : PE X e te) (kj : 2 ≤ j := by decide) (hg : Gl X nm := by rfl)
    (hdb : (nm == ("__debug__" : Str)) = false := by decide) (hs : starEach [e] X.env = (false, eval e X.env) :: starEach [] X.env := by rfl) :
    PS X (.Raise (some (.Call (.Name nm np) [e] [] pos)) none pos2) (fun _ σ H => tMkO C (spIni C f) [] (tCons te tNil) σ H fun cls d H' => W cls d σ H') := by
  obtain ⟨fI, fd, h1, h2, h3, h4, _⟩ := T.ini
  exact ps_raise (pos := pos2) hc tk (pmk_oexG (pos := pos) (p := np) T.oex h1 h2 h3 (hr.mono kj) h4 hg T.gC (pa_cons he pa_nil hs) hdb hs)
/-- raise C(e, e2) -/
theorem ps_raise2 (hc : X.calm = true) (T : XV2 X.prog X.w X.K X.mg X.base nm C f g) {j : Nat} (hr : Room j X.A) (tk : Takes X W) (he : PE X e te) (he2 : PE X e2 te2) (kj : 2 ≤ j := by decide) (hg : Gl X nm := by rfl)
    (hdb : (nm == ("__debug__" : Str)) = false := by decide) (hs : starEach [e, e2] X.env = (false, eval e X.env) :: starEach [e2] X.env := by rfl) (hs2 : starEach [e2] X.env = (false, eval e2 X.env) :: starEach [] X.env := by rfl)
    (n3 : (backTo pos (starEach [e2] X.env)).any (·.1) = false := by rfl) :
    PS X (.Raise (some (.Call (.Name nm np) [e, e2] [] pos)) none pos2) (fun _ σ H => tMkO C (spIni2 C f g) [] (tCons te (tCons te2 tNil)) σ H fun cls d H' => W cls d σ H') := by
  obtain ⟨fI, fd, h1, h2, h3, h4, _⟩ := T.ini
  exact ps_raise (pos := pos2) hc tk (pmk_oexG (pos := pos) (p := np) T.oex h1 h2 h3 (hr.mono kj) h4 hg T.gC (pa_cons he (pa_cons he2 pa_nil hs2) hs) hdb hs n3)
/-- what the making of such an error comes to -/
theorem made_go2 {v u : V} {H : Hp} {R : XK} (h : ∀ d, H d = none → R (.ref C) (some d) (upd H d (.xd [(g, u), (f, v)]))) :
    [v, u].length ≤ 1000 ∧ ∀ a, H a = none → spIni2 C f g (.ref a :: ([v, u] ++ [])) (upd H a (exo a C none))
      (fun z H2 => z = .non ∧ ∃ (d : Addr) (fs : List (Str × V)), H2 a = some (exo a C (some d)) ∧ H2 d = some (exd d fs) ∧ H d = none ∧ R (.ref C) (some d) (upd (del H2 a) d (.xd fs))) (fun _ _ _ => False) := by
  refine ⟨(by show 2 ≤ 1000; decide), fun a ha => ⟨a, v, u, rfl, upd_same, fun dx hdx ne => ⟨rfl, dx, [(g, u), (f, v)], ?_, upd_same, ?_, ?_⟩⟩⟩
  · rw [upd_ne ne.symm, upd_same]
  · rw [upd_ne ne] at hdx
    exact hdx
  · have hd : H dx = none := by
      rw [upd_ne ne] at hdx
      exact hdx
    have e : upd (del (upd (upd (upd (upd H a (exo a C none)) dx (exd dx [(f, v)])) a (exo a C (some dx))) dx (exd dx [(g, u), (f, v)])) a) dx (.xd [(g, u), (f, v)]) = upd H dx (.xd [(g, u), (f, v)]) := by
      funext b
      by_cases h1 : b = dx
      · rw [h1, upd_same, upd_same]
      · rw [upd_ne h1, upd_ne h1]
        by_cases h2 : b = a
        · rw [h2, del_same, ha]
        · rw [del_ne h2, upd_ne h1, upd_ne h2, upd_ne h1, upd_ne h2]
    rw [e]
    exact h dx hd
end
end G
set_option maxHeartbeats 1000000
/-! Frames, data that does not change, names. -/
namespace G
open PySem PySem.Spec PyProof.Rows L2
/-- a tuple, or one that is held as the very object -/
def isT : HO → Bool
  | .tup _ => true
  | .frz _ (.tup _) => true
  | _ => false
/-- tuples stay -/
def KT (H H' : Hp) : Prop := ∀ a o, isT o = true → H a = some o → H' a = some o
theorem KT.refl (H : Hp) : KT H H := fun _ _ _ h => h
theorem KT.trans {H H1 H2 : Hp} (a : KT H H1) (b : KT H1 H2) : KT H H2 := fun q o t h => b q o t (a q o t h)
theorem KT.of {H H' : Hp} (s : Same H H') : KT H H' := fun q o _ h => s q _ h
theorem KT.put {H : Hp} {p : Addr} {o o' : HO} (h : H p = some o) (n : isT o = false) : KT H (upd H p o') := fun q u t e => by
  have ne : q ≠ p := fun z => by rw [z, h] at e; rw [Option.some.inj e, t] at n; cases n
  rw [upd_ne ne]; exact e
theorem KT.new {H : Hp} {p : Addr} {o : HO} (h : H p = none) : KT H (upd H p o) := .of (new_same h)
theorem KT.ext {r : Addr} {H H' : Hp} (R : Rng H r) (e : Ext r H H') : KT H H' := fun q o t h => by
  obtain ⟨a, b, hr, _⟩ := R
  exact e q _ (fun z => by rw [z, hr] at h; rw [← Option.some.inj h] at t; cases t) h
/-- a tuple of the values xs that has no dict of its own -/
def Zt (H : Hp) (a : Addr) (xs : List V) : Prop := ∃ ob : Obj, ob.dict = none ∧ H a = some (.frz ob (.tup xs))
theorem Zt.rd {H : Hp} {a : Addr} {xs : List V} (z : Zt H a xs) : Rd H a (.tup xs) := by
  obtain ⟨ob, _, h⟩ := z
  exact .inr ⟨ob, h⟩
theorem Zt.keep {H H' : Hp} {a : Addr} {xs : List V} (z : Zt H a xs) (k : KT H H') : Zt H' a xs := by
  obtain ⟨ob, n, h⟩ := z
  exact ⟨ob, n, k _ _ rfl h⟩
theorem Zt.same {H H' : Hp} {a : Addr} {xs : List V} (z : Zt H a xs) (k : Same H H') : Zt H' a xs := z.keep (.of k)
theorem Zt.ne {H : Hp} {a p : Addr} {xs : List V} (z : Zt H a xs) (h : H p = none) : a ≠ p := by
  obtain ⟨ob, n, e⟩ := z
  exact ne_of_none e h
/-- all but what stands at S is kept -/
def Fr (S : List Addr) (H H' : Hp) : Prop := ∀ q o, q ∉ S → H q = some o → H' q = some o
theorem Fr.refl (S : List Addr) (H : Hp) : Fr S H H := fun _ _ _ h => h
theorem Fr.trans {S : List Addr} {H H1 H2 : Hp} (a : Fr S H H1) (b : Fr S H1 H2) : Fr S H H2 := fun q o n h => b q o n (a q o n h)
theorem Fr.mono {S S' : List Addr} {H H' : Hp} (a : Fr S H H') (s : ∀ q ∈ S, q ∈ S') : Fr S' H H' := fun q o n h => a q o (fun z => n (s q z)) h
theorem Fr.of {S : List Addr} {H H' : Hp} (s : Same H H') : Fr S H H' := fun q o _ h => s q o h
theorem Fr.ext {r : Addr} {H H' : Hp} (e : Ext r H H') : Fr [r] H H' := fun q o n h => e q o (by simpa using n) h
theorem Fr.put {S : List Addr} {H : Hp} {p : Addr} {o : HO} (m : p ∈ S) : Fr S H (upd H p o) := fun q u n h => by
  rw [upd_ne (fun z => n (by rw [z]; exact m))]; exact h
theorem fr_none {S : List Addr} {H H' : Hp} {p : Addr} (f : Fr S H H') (n : p ∉ S) (h : H' p = none) : H p = none := by
  cases z : H p with
  | none => rfl
  | some o => rw [f p o n z] at h; cases h
theorem same_none {H H' : Hp} {p : Addr} (s : Same H H') (h : H' p = none) : H p = none := by
  cases z : H p with
  | none => rfl
  | some o => rw [s p o z] at h; cases h
theorem same_trans {H H1 H2 : Hp} (a : Same H H1) (b : Same H1 H2) : Same H H2 := fun q o h => b q o (a q o h)
theorem same_new {H H1 : Hp} {p : Addr} {o : HO} (a : Same H H1) (h : H1 p = none) : Same H (upd H1 p o) := same_trans a (new_same h)
/-- a store to what is new since H -/
theorem same_put {H H1 : Hp} {p : Addr} {o : HO} (a : Same H H1) (h : H p = none) : Same H (upd H1 p o) := fun q u e => by
  rw [upd_ne (ne_of_none e h)]; exact a q u e
theorem ext_put {r p : Addr} {H H1 : Hp} {o : HO} (a : Ext r H H1) (h : H p = none) : Ext r H (upd H1 p o) := fun q u n e => by
  rw [upd_ne (ne_of_none e h)]; exact a q u n e
mutual
/-- data without lists and dicts -/
def imm : PyData → Bool
  | .tuple ds => immAll ds
  | .list _ => false
  | .dict _ => false
  | .none => true
  | .bool _ => true
  | .int _ => true
  | .str _ => true
def immAll : List PyData → Bool
  | [] => true
  | d :: ds => imm d && immAll ds
end
mutual
theorem Da.keep {H H' : Hp} (k : KT H H') {v : V} {d : PyData} : Da H v d → imm d = true → Da H' v d
  | .non, _ => .non
  | .bl b, _ => .bl b
  | .int i, _ => .int i
  | .str x, _ => .str x
  | .lst _ _ _, h => by simp [imm] at h
  | .dic _ _, h => by simp [imm] at h
  | .tup h t, hi => .tup (k _ _ rfl h) (DaAll.keep k t (by simpa [imm] using hi))
theorem DaAll.keep {H H' : Hp} (k : KT H H') {vs : List V} {ds : List PyData} : DaAll H vs ds → immAll ds = true → DaAll H' vs ds
  | .nil, _ => .nil
  | .cons h t, hi => by
    simp only [immAll, Bool.and_eq_true] at hi
    exact .cons (Da.keep k h hi.1) (DaAll.keep k t hi.2)
end
theorem immAll_iff : ∀ {ds : List PyData}, immAll ds = true ↔ ∀ d ∈ ds, imm d = true
  | [] => by simp [immAll]
  | d :: ds => by simp [immAll, immAll_iff (ds := ds)]
theorem DaAll.get {H : Hp} : ∀ {vs : List V} {ds : List PyData} {i : Nat} {d : PyData}, DaAll H vs ds → ds[i]? = some d → ∃ v, vs[i]? = some v ∧ Da H v d
  | _, _, i, d, .nil, h => by simp at h
  | _, _, 0, d, .cons a t, h => by simp at h; subst h; exact ⟨_, rfl, a⟩
  | _, _, i + 1, d, .cons a t, h => by simp at h; obtain ⟨v, h1, h2⟩ := DaAll.get t h; exact ⟨v, by simpa using h1, h2⟩
theorem DaAll.get' {H : Hp} : ∀ {vs : List V} {ds : List PyData} {i : Nat} {v : V}, DaAll H vs ds → vs[i]? = some v → ∃ d, ds[i]? = some d ∧ Da H v d
  | _, _, i, d, .nil, h => by simp at h
  | _, _, 0, d, .cons a t, h => by simp at h; subst h; exact ⟨_, rfl, a⟩
  | _, _, i + 1, d, .cons a t, h => by simp at h; obtain ⟨v, h1, h2⟩ := DaAll.get' t h; exact ⟨v, by simpa using h1, h2⟩
theorem DaAll.snoc {H : Hp} : ∀ {vs : List V} {ds : List PyData} {v : V} {d : PyData}, DaAll H vs ds → Da H v d → DaAll H (vs ++ [v]) (ds ++ [d])
  | _, _, _, _, .nil, h => .cons h .nil
  | _, _, _, _, .cons a t, h => .cons a (DaAll.snoc t h)
theorem DaAll.strs {H : Hp} : ∀ (l : List Str), DaAll H (l.map V.str) (l.map PyData.str)
  | [] => .nil
  | x :: r => .cons (.str x) (DaAll.strs r)
mutual
/-- the same data for == (no dicts) -/
theorem Da.dp {K : PySem.W.Frag} {H : Hp} {v : V} {d : PyData} : Da H v d → d.hasDict = false → Dp K H v d
  | .non, _ => .non
  | .bl b, _ => .bl b
  | .int i, _ => .int i
  | .str x, _ => .str x
  | .lst _ h t, n => .lst (SqL.of h) (DaAll.dp t (by simpa [PyData.hasDict] using n))
  | .tup h t, n => .tup (SqT.of h) (DaAll.dp t (by simpa [PyData.hasDict] using n))
  | .dic _ _, n => by simp [PyData.hasDict] at n
theorem DaAll.dp {K : PySem.W.Frag} {H : Hp} {vs : List V} {ds : List PyData} : DaAll H vs ds → PyData.hasDictAll ds = false → DpAll K H vs ds
  | .nil, _ => .nil
  | .cons h t, n => by
    simp only [PyData.hasDictAll, Bool.or_eq_false_iff] at n
    exact .cons (Da.dp h n.1) (DaAll.dp t n.2)
end

/-! ### names -/
abbrev LET : Str := "abcdefghijklmnopqrstuvwxyz"
theorem letOk : ∀ c ∈ LET.cps.toList, c < 1114112 := by decide +kernel
theorem letLen : LET.cps.toList.length = 26 := by decide +kernel
def NameOk (z : Str) : Prop := 1 ≤ z.length ∧ z.length ≤ 8 ∧ ∀ c ∈ z.cps.toList, c ∈ LET.cps.toList
theorem tl_app (a b : Str) : (a ++ b).cps.toList = a.cps.toList ++ b.cps.toList := by
  show (a.cps ++ b.cps).toList = _
  simp
theorem sl_cut_mem {a : Str} {lo hi : Option Int} {c : Nat} (hc : c ∈ (cutS a lo hi).cps.toList) : c ∈ a.cps.toList := by
  have h : c ∈ (a.cps.toList.drop (HT.sIx a.length 0 lo)).take (HT.sIx a.length a.length hi - HT.sIx a.length 0 lo) := by simpa [cutS] using hc
  exact List.mem_of_mem_drop (List.mem_of_mem_take h)
theorem join_one : ∀ ys : List Str, (∀ y ∈ ys, ∃ c, c ∈ LET.cps.toList ∧ y = ⟨#[c]⟩) → (Str.join "" ys).length = ys.length ∧ ∀ c ∈ (Str.join "" ys).cps.toList, c ∈ LET.cps.toList
  | [], _ => ⟨rfl, fun c hc => by simp [Str.join, Str.empty] at hc⟩
  | [y], h => by
    obtain ⟨c, hc, rfl⟩ := h y (by simp)
    exact ⟨rfl, fun d hd => by
      have e : d = c := by simpa [Str.join] using hd
      rw [e]; exact hc⟩
  | y :: z :: r, h => by
    obtain ⟨c, hc, rfl⟩ := h y (by simp)
    have h2 := join_one (z :: r) fun x hx => h x (by simp only [List.mem_cons] at hx ⊢; exact .inr hx)
    have e : (Str.join "" (⟨#[c]⟩ :: z :: r)).cps.toList = c :: (Str.join "" (z :: r)).cps.toList := by
      show ((⟨#[c]⟩ : Str) ++ ("" : Str) ++ Str.join "" (z :: r)).cps.toList = _
      rw [tl_app, tl_app]
      rfl
    refine ⟨?_, fun d hd => ?_⟩
    · have l : ∀ s : Str, s.length = s.cps.toList.length := fun s => by simp [Str.length]
      rw [l, e, List.length_cons, ← l, h2.1]
      rfl
    · rw [e] at hd
      rcases List.mem_cons.mp hd with rfl | hd
      · exact hc
      · exact h2.2 d hd
theorem nodup_le {α : Type} [BEq α] [LawfulBEq α] : ∀ {l m : List α}, l.Nodup → (∀ x ∈ l, x ∈ m) → l.length ≤ m.length
  | [], m, _, _ => Nat.zero_le _
  | x :: l, m, n, h => by
    rw [List.nodup_cons] at n
    have hx := h x (by simp)
    have := nodup_le (l := l) (m := m.erase x) n.2 fun y hy => (List.mem_erase_of_ne (fun (e : y = x) => n.1 (e ▸ hy))).mpr (h y (by simp [hy]))
    rw [List.length_erase_of_mem hx] at this
    have : 0 < m.length := List.length_pos_of_mem hx
    simp only [List.length_cons]
    omega
def letAt (i : Nat) : Str := ⟨#[LET.cps.toList.getD i 0]⟩
/-- the k-th word behind z -/
def wordAt (z : Str) (k : Nat) : Str := cutS z none (some 6) ++ letAt (k / 26) ++ letAt (k % 26)
theorem let_inj : ∀ i < 26, ∀ j < 26, LET.cps.toList.getD i 0 = LET.cps.toList.getD j 0 → i = j := by decide +kernel
theorem let_in : ∀ i < 26, LET.cps.toList.getD i 0 ∈ LET.cps.toList := by decide +kernel
theorem word_inj {z : Str} {i j : Nat} (hi : i < 676) (hj : j < 676) (h : wordAt z i = wordAt z j) : i = j := by
  have e : (wordAt z i).cps.toList = (wordAt z j).cps.toList := by rw [h]
  simp only [wordAt, tl_app, List.append_assoc] at e
  have e2 := List.append_cancel_left e
  have e3 : LET.cps.toList.getD (i / 26) 0 = LET.cps.toList.getD (j / 26) 0 ∧ LET.cps.toList.getD (i % 26) 0 = LET.cps.toList.getD (j % 26) 0 := by
    simpa [letAt] using e2
  have a1 := let_inj (i / 26) (by omega) (j / 26) (by omega) e3.1
  have a2 := let_inj (i % 26) (by omega) (j % 26) (by omega) e3.2
  omega
theorem words_free {z : Str} {us : List Str} (h : us.length < 676) : ((List.range 676).map (wordAt z)).filter (fun x => decide (x ∉ us)) ≠ [] := by
  intro e
  have al : ∀ x ∈ (List.range 676).map (wordAt z), x ∈ us := fun x hx => by
    by_cases m : x ∈ us
    · exact m
    · have : x ∈ ((List.range 676).map (wordAt z)).filter (fun x => decide (x ∉ us)) := List.mem_filter.mpr ⟨hx, by simpa using m⟩
      rw [e] at this
      cases this
  have n : ((List.range 676).map (wordAt z)).Nodup := by
    rw [List.nodup_iff_pairwise_ne, List.pairwise_map]
    refine List.Pairwise.imp_of_mem ?_ (List.nodup_iff_pairwise_ne.mp List.nodup_range)
    intro a b ha hb ne e
    exact ne (word_inj (List.mem_range.mp ha) (List.mem_range.mp hb) e)
  have := nodup_le n al
  simp at this
  omega
theorem word_ok {z : Str} (hz : NameOk z) {k : Nat} (hk : k < 676) : NameOk (wordAt z k) := by
  have l : ∀ s : Str, s.length = s.cps.toList.length := fun s => by simp [Str.length]
  have c6 : (cutS z none (some 6)).length ≤ 6 := by
    show (List.toArray _).size ≤ 6
    rw [List.size_toArray, List.length_take]
    have : HT.sIx z.length z.length (some 6) ≤ 6 := by simp [HT.sIx]; omega
    omega
  have ll : (wordAt z k).length = (cutS z none (some 6)).length + 2 := by
    rw [l, wordAt, tl_app, tl_app, List.length_append, List.length_append, ← l]
    rfl
  refine ⟨by omega, by omega, fun c hc => ?_⟩
  rw [wordAt, tl_app, tl_app] at hc
  rcases List.mem_append.mp hc with h | h
  · rcases List.mem_append.mp h with h | h
    · exact hz.2.2 c (sl_cut_mem h)
    · have e : c = LET.cps.toList.getD (k / 26) 0 := by simpa [letAt] using h
      rw [e]; exact let_in _ (by omega)
  · have e : c = LET.cps.toList.getD (k % 26) 0 := by simpa [letAt] using h
    rw [e]; exact let_in _ (by omega)
end G
set_option maxHeartbeats 1000000
/-! Rules over what is tracked alone: their readings do not name the written part, so that they stand in comprehensions. -/
namespace G
open PySem PySem.Spec PyProof.Rows L2
section
variable {X : Cx} {e o : Expr} {es : List Expr} {t t' : TE} {to : TE} {ta : TA} {pos apos cpos : Pos} {C : Addr}
theorem pe_imp (h : PE X e t) (m : ∀ σ H Q, t' σ H Q → t σ H Q) : PE X e t' := ⟨fun pins s σ H Q I q => h.run pins s σ H Q I (m σ H Q q)⟩
def kIxL : R2 := fun x y H Q => ∃ p xs i v, x = .ref p ∧ y = .int i ∧ H p = some (.lst xs) ∧ atI xs i = some v ∧ Q v H
def kIxT : R2 := fun x y H Q => ∃ p xs i v, x = .ref p ∧ y = .int i ∧ Rd H p (.tup xs) ∧ atI xs i = some v ∧ Q v H
theorem ixL : IxR X kIxL := fun value slice pins s σ H x y v u Q I rx ry h hs => by
  obtain ⟨p, xs, i, z, h1, h2, h3, h4, q⟩ := h
  exact ix_list value slice pins s σ H x y v u Q I rx ry ⟨p, xs, i, z, h1, h2, SqL.of h3, h4, q⟩ hs
theorem ixT : IxR X kIxT := fun value slice pins s σ H x y v u Q I rx ry h hs => by
  obtain ⟨p, xs, i, z, h1, h2, h3, h4, q⟩ := h
  exact ix_tup value slice pins s σ H x y v u Q I rx ry ⟨p, xs, i, z, h1, h2, .inl h3, h4, q⟩ hs
def kLenL : List V → Hp → VK → Prop := fun xs H Q => ∃ p ys, xs = [.ref p] ∧ H p = some (.lst ys) ∧ Q (.int ys.length) H
def kLenT : List V → Hp → VK → Prop := fun xs H Q => ∃ p ys, xs = [.ref p] ∧ Rd H p (.tup ys) ∧ Q (.int ys.length) H
theorem lenL : CallR X (.builtin "len") kLenL := fun pins s σ H xs us Q I r h => by
  obtain ⟨p, ys, h1, h2, q⟩ := h
  exact call_len_seq pins s σ H xs us Q I r ⟨p, ys, h1, .inl (SqL.of h2), q⟩
theorem lenT : CallR X (.builtin "len") kLenT := fun pins s σ H xs us Q I r h => by
  obtain ⟨p, ys, h1, h2, q⟩ := h
  exact call_len_seq pins s σ H xs us Q I r ⟨p, ys, h1, .inr (.inl h2), q⟩
def kInL (neg : Bool) : R2 := fun x y H Q => ∃ p xs, y = .ref p ∧ H p = some (.lst xs) ∧ flatV x = true ∧ xs.all flatV = true ∧ Q (.bl (if neg then !inV x xs else inV x xs)) H
def kInT (neg : Bool) : R2 := fun x y H Q => ∃ p xs, y = .ref p ∧ Rd H p (.tup xs) ∧ flatV x = true ∧ xs.all flatV = true ∧ Q (.bl (if neg then !inV x xs else inV x xs)) H
theorem inL : OpR X (compareOp .In) (kInL false) := fun pins s σ H x y v u Q I rx ry h => by
  obtain ⟨p, xs, h1, h2, h3, h4, q⟩ := h
  exact op_in_seq pins s σ H x y v u Q I rx ry ⟨p, xs, h1, .inl (SqL.of h2), h3, h4, q⟩
theorem inT : OpR X (compareOp .In) (kInT false) := fun pins s σ H x y v u Q I rx ry h => by
  obtain ⟨p, xs, h1, h2, h3, h4, q⟩ := h
  exact op_in_seq pins s σ H x y v u Q I rx ry ⟨p, xs, h1, .inr (.inl h2), h3, h4, q⟩
theorem notInL : OpR X (compareOp .NotIn) (kInL true) := fun pins s σ H x y v u Q I rx ry h => by
  obtain ⟨p, xs, h1, h2, h3, h4, q⟩ := h
  exact op_notIn_seq pins s σ H x y v u Q I rx ry ⟨p, xs, h1, .inl (SqL.of h2), h3, h4, q⟩
theorem notInT : OpR X (compareOp .NotIn) (kInT true) := fun pins s σ H x y v u Q I rx ry h => by
  obtain ⟨p, xs, h1, h2, h3, h4, q⟩ := h
  exact op_notIn_seq pins s σ H x y v u Q I rx ry ⟨p, xs, h1, .inr (.inl h2), h3, h4, q⟩
/-- x == y, data -/
def kEq : R2 := fun x y H Q => ∃ d e, Da H x d ∧ Da H y e ∧ d.hasDict = false ∧ e.hasDict = false ∧ SeqAt.shaped d = true ∧ SeqAt.shaped e = true ∧ Q (.bl (PyData.eqv d e)) H
theorem eqA (hu : X.A.units + 64 < cLine) : OpR X (compareOp .Eq) kEq := fun pins s σ H x y v u Q I rx ry h => by
  obtain ⟨d, e, h1, h2, h3, h4, h5, h6, q⟩ := h
  exact op_eqD hu pins s σ H x y v u Q I rx ry ⟨d, e, h1.dp h3, h2.dp h4, h5, h6, q⟩
def kNe : R2 := fun x y H Q => ∃ d e, Da H x d ∧ Da H y e ∧ d.hasDict = false ∧ e.hasDict = false ∧ SeqAt.shaped d = true ∧ SeqAt.shaped e = true ∧ Q (.bl (!PyData.eqv d e)) H
theorem neA (hu : X.A.units + 64 < cLine) : OpR X (compareOp .NotEq) kNe := fun pins s σ H x y v u Q I rx ry h => by
  obtain ⟨d, e, h1, h2, h3, h4, h5, h6, q⟩ := h
  exact op_neD hu pins s σ H x y v u Q I rx ry ⟨d, e, h1.dp h3, h2.dp h4, h5, h6, q⟩
/-- list(xs), list(t) -/
def kListL : List V → Hp → VK → Prop := fun xs H Q => ∃ p ys, xs = [.ref p] ∧ H p = some (.lst ys) ∧ ∀ l, H l = none → Q (.ref l) (upd H l (.lst ys))
def kListT : List V → Hp → VK → Prop := fun xs H Q => ∃ p ys, xs = [.ref p] ∧ Rd H p (.tup ys) ∧ ∀ l, H l = none → Q (.ref l) (upd H l (.lst ys))
theorem listL : CallR X (.type "list") kListL := fun pins s σ H xs us Q I r h => by
  obtain ⟨p, ys, h1, h2, q⟩ := h
  exact call_list_of pins s σ H xs us Q I r ⟨p, ys, h1, .inl (SqL.of h2), q⟩
theorem listT : CallR X (.type "list") kListT := fun pins s σ H xs us Q I r h => by
  obtain ⟨p, ys, h1, h2, q⟩ := h
  exact call_list_of pins s σ H xs us Q I r ⟨p, ys, h1, .inr (.inl h2), q⟩
def kSlL : V → Option Int → Option Int → Hp → VK → Prop := fun x lo hi H Q => ∃ a xs, x = .ref a ∧ H a = some (.lst xs) ∧ ∀ p, H p = none → Q (.ref p) (upd H p (.lst (cutV xs lo hi)))
theorem slL : SlR X kSlL := fun pins s σ H x v vl vu lo hi sl Q I rx hs pl pu h => by
  obtain ⟨a, xs, h1, h2, q⟩ := h
  exact sl_list pins s σ H x v vl vu lo hi sl Q I rx hs pl pu ⟨a, xs, h1, SqL.of h2, q⟩
/-- tuple(xs) of a list -/
def kTupL : List V → Hp → VK → Prop := fun xs H Q => ∃ p ys, xs = [.ref p] ∧ H p = some (.lst ys) ∧ ∀ l, H l = none → Q (.ref l) (upd H l (.tup ys))
theorem tupL : CallR X (.type "tuple") kTupL := fun pins s σ H xs us Q I r h => by
  obtain ⟨p, ys, h1, h2, q⟩ := h
  exact call_tuple_of pins s σ H xs us Q I r ⟨p, ys, h1, .inl ⟨SqL.of h2, q⟩⟩
/-- .. the new tuple held as the very object -/
def kTupZ : List V → Hp → VK → Prop := fun xs H Q => ∃ p ys, xs = [.ref p] ∧ H p = some (.lst ys) ∧ ∀ l ob, H l = none → ob.dict = none → Q (.ref l) (upd H l (.frz ob (.tup ys)))
theorem tupZ : CallR X (.type "tuple") kTupZ := fun pins s σ H xs us Q I r h => by
  obtain ⟨p, ys, rfl, hq, q⟩ := h
  obtain ⟨u, rfl, rx⟩ := vals1 r
  cases rx
  obtain ⟨its, r2, pl, hz⟩ := I.list (SqL.of hq)
  have hlen := r2.length
  refine call_tuple_list pl.isList (fun h' kp => ?_) (by simp only [List.size_toArray]; omega)
  have I1 : Inv X pins σ H { s with heap := h' } := I.kept (t' := s.toks) kp
  have nw : (h'.push { cls := .type "tuple", data := .seq its.toArray }).get? h'.objs.size = some { cls := .type "tuple", data := .seq its.toArray } := Heap.get?_push_size _ rfl
  have I2 : Inv X pins σ (upd H h'.objs.size (.frz { cls := .type "tuple", data := .seq its.toArray } (.tup ys))) { s with heap := h'.push { cls := .type "tuple", data := .seq its.toArray } } :=
    I1.laid (t' := s.toks) (fun b o e => Heap.get?_push_of_some _ e) (Nat.le_refl _) ⟨nw, hz, its, r2, IsTup.new _ _⟩
  exact ⟨.ref h'.objs.size, _, I2, rfl, q _ _ (I1.hok.fresh (Nat.le_refl _)) rfl⟩
/-- a field of an object of the class at C -/
def tFl (C : Addr) (f : Str) (ta : TE) : TE := fun σ H Q => ta σ H fun x H1 => ∃ a dx fs v, x = .ref a ∧ H1 a = some (.ins C dx fs) ∧ fs.lookup f = some v ∧ Q v H1
theorem pe_fl {f : Str} {ta : TE} (c : Cls X.K C) (n : NoAttr X.K C f) (he : PE X e ta) (hb : attributeBase e f X.env (eval e X.env) = eval e X.env := by rfl) : PE X (.Attribute e f pos) (tFl C f ta) := by
  refine ⟨fun pins s σ H Q I h => ?_⟩
  refine attr_of hb (thn (he.run pins s σ H _ I h) fun u s1 ⟨x, H1, I1, rx, a, dx, fs, v, ex, ea, l, q⟩ => ?_)
  subst ex
  obtain rfl : u = Value.ref a := rx
  exact getattr_ok I1 ea c n l fun u2 s2 I2 ru => ⟨v, H1, I2, ru, q⟩
/-- a method of a tracked list, of a tracked tuple -/
def isSq (T : String) (x : V) (H : Hp) : Prop := ∃ a, x = .ref a ∧ ((T = "list" ∧ ∃ xs, H a = some (.lst xs)) ∨ (T = "tuple" ∧ ∃ xs, Zt H a xs))
def tBL (T : String) (r : V → List V → Hp → VK → Prop) (to : TE) (t : TA) : TE := fun σ H Q => to σ H fun x H1 => isSq T x H1 ∧ t σ H1 fun xs H2 => r x xs H2 Q
def tBL0 (T : String) (r : V → List V → Hp → VK → Prop) (to : TE) : TE := fun σ H Q => to σ H fun x H1 => isSq T x H1 ∧ r x [] H1 Q
theorem isSq_is {pins : List (Addr × Obj)} {σ : L2.St} {H : Hp} {s : Shared} {T : String} {x : V} {v : Value} (I : Inv X pins σ H s) (r : RelV x v) (h : isSq T x H) : s.TypeIs v T ∧ ∀ a, v = .ref a → ∃ ob, s.heap.get? a = some ob ∧ ob.dict = none := by
  obtain ⟨a, rfl, ⟨rfl, xs, h⟩ | ⟨rfl, xs, h⟩⟩ := h
  · exact tyV_is I r (.inl ⟨rfl, xs, SqL.of h⟩)
  · obtain rfl : v = Value.ref a := r
    obtain ⟨ob, n, h⟩ := h
    obtain ⟨e, _, its, rv, o, ho, hc, m, hd⟩ := (show ObjOk X.prog X.w H s.heap a (.frz ob (.tup xs)) from I.hok a _ h)
    rw [e] at ho
    cases ho
    exact ⟨⟨ob, e, hc⟩, fun b z => by cases z; exact ⟨ob, e, n⟩⟩
theorem pe_bl {T : String} {name : Str} {id : String} {r : V → List V → Hp → VK → Prop} (pa : PlainAttrs T) (slot : Slot T name id) (hty : typeOf (.builtin id) = pure (.type "method_descriptor")) (hm : MtR X id r) (ho : PE X o to) (ha : PA X (e :: es) ta)
    (hbase : attributeBase o name X.env (eval o X.env) = eval o X.env := by rfl)
    (hfew : ((backTo cpos (starEach (e :: es) X.env)).all (fun x => !x.1) && (backToKw cpos (keywordEach [] X.env)).all (fun x => x.1.isSome) && decide ((e :: es).length + ([] : List Keyword).length + (if ([] : List Keyword).isEmpty then 0 else 1) < 30)) = true := by rfl)
    (hline : (apos.endLine == cpos.line) = true := by rfl) (hs : starEach (e :: es) X.env = (false, eval e X.env) :: starEach es X.env := by rfl) (hplain : (backTo cpos (starEach es X.env)).any (·.1) = false := by rfl) :
    PE X (.Call (.Attribute o name apos) (e :: es) [] cpos) (tBL T r to ta) := by
  refine ⟨fun pins s σ H Q I h => ?_⟩
  refine wpAny_Call_method_late hbase hfew hline rfl (thn (ho.run pins s σ H _ I h) fun v s1 ⟨x, H1, I1, r1, ty, q1⟩ => ?_)
  obtain ⟨h1, h2⟩ := isSq_is I1 r1 ty
  have hA := ha.run cpos pins s1 σ H1 _ I1 q1
  refine ⟨T, id, pa, slot, hty, h1, h2, ?_⟩
  rw [hs] at hA ⊢
  refine Calls.callWith_builtin (by show (false || (backTo cpos (starEach es X.env)).any (·.1)) = false; rw [hplain]; rfl) (Calls.evalArgs_plain (thn hA fun us s2 ⟨vs, H2, I2, r2, q2⟩ => ?_))
  exact hm pins s2 σ H2 x vs v us Q I2 r1 r2 q2
theorem pe_bl0 {T : String} {name : Str} {id : String} {r : V → List V → Hp → VK → Prop} (pa : PlainAttrs T) (slot : Slot T name id) (hty : typeOf (.builtin id) = pure (.type "method_descriptor")) (hm : MtR X id r) (ho : PE X o to)
    (hbase : attributeBase o name X.env (eval o X.env) = eval o X.env := by rfl) (hline : (apos.endLine == cpos.line) = true := by rfl) : PE X (.Call (.Attribute o name apos) [] [] cpos) (tBL0 T r to) := by
  refine ⟨fun pins s σ H Q I h => ?_⟩
  refine wpAny_Call_method0_late hbase hline (thn (ho.run pins s σ H _ I h) fun v s1 ⟨x, H1, I1, r1, ty, q1⟩ => ?_)
  obtain ⟨h1, h2⟩ := isSq_is I1 r1 ty
  exact ⟨T, id, pa, slot, hty, h1, h2, Calls.callWith_builtin rfl (PySem.evalArgs_none (hm pins s1 σ H1 x [] v [] Q I1 r1 .nil q1))⟩
/-- xs.index(y), t.index(y) -/
def kIdxL : V → List V → Hp → VK → Prop := fun x xs H Q => ∃ (a : Addr) (ys : List V) (y : V) (j : Nat) (z : V), x = V.ref a ∧ xs = [y] ∧ H a = some (.lst ys) ∧ flatV y = true ∧ ys.all flatV = true ∧ ys[j]? = some z ∧ eqV z y = true ∧
  (∀ (m : Nat) (z' : V), m < j → ys[m]? = some z' → eqV z' y = false) ∧ Q (.int (j : Nat)) H
theorem idxL : MtR X "list.index" kIdxL := fun pins s σ H x xs v us Q I rx rs h => by
  obtain ⟨a, ys, y, j, z, h1, h2, h3, h4⟩ := h
  exact mt_index pins s σ H x xs v us Q I rx rs ⟨a, ys, y, j, z, h1, h2, SqL.of h3, h4⟩
def kIdxT : V → List V → Hp → VK → Prop := fun x xs H Q => ∃ (p : Addr) (ys : List Str) (z : Str) (j : Nat), x = .ref p ∧ xs = [.str z] ∧ Rd H p (.tup (ys.map V.str)) ∧ ys[j]? = some z ∧ (∀ m, m < j → ys[m]? ≠ some z) ∧ Q (.int (j : Nat)) H
theorem idxT : MtR X "tuple.index" kIdxT := fun pins s σ H x xs v us Q I rx rs h => by
  obtain ⟨p, ys, z, j, h1, h2, h3, h4⟩ := h
  exact mt_tup_index pins s σ H x xs v us Q I rx rs ⟨p, ys, z, j, h1, h2, .inl h3, h4⟩
end
end G
set_option maxHeartbeats 1000000
namespace N23
open PySem PySem.Spec PyProof.Rows L2 G
def tp (i : Nat) : Stmt :=
  PySem.Challenge.pw_groupsteps_k23_whole_windows_always_rise.main.body.getD i (.Pass ⟨0, 0, 0, 0⟩)
abbrev sIsName : Stmt := tp 18
abbrev sIsVer : Stmt := tp 19
abbrev sIsWin : Stmt := tp 21
abbrev sReqWin : Stmt := tp 22
abbrev sReqWins : Stmt := tp 23
abbrev sReach : Stmt := tp 24
abbrev sRises : Stmt := tp 25
abbrev sCanUse : Stmt := tp 30
abbrev sReqUses : Stmt := tp 31
abbrev sInit : Stmt := inClass (tp 32) 0
abbrev sIsMod : Stmt := inClass (tp 32) 1
abbrev sReqMod : Stmt := inClass (tp 32) 2
abbrev sModules : Stmt := inClass (tp 32) 3
abbrev sUses : Stmt := inClass (tp 32) 4
abbrev sVersions : Stmt := inClass (tp 32) 6
abbrev sReqRis : Stmt := inClass (tp 32) 7
abbrev sPublish : Stmt := inClass (tp 32) 8
abbrev sWindow : Stmt := inClass (tp 32) 9
abbrev sWithdraw : Stmt := inClass (tp 32) 11
abbrev sIsAv : Stmt := inClass (tp 32) 12
abbrev sAvail : Stmt := inClass (tp 32) 13
abbrev sClone : Stmt := inClass (tp 32) 15
abbrev sEq : Stmt := inClass (tp 32) 16
abbrev sRng : Stmt := tp 34
abbrev sDraw : Stmt := tp 35
abbrev sChoice : Stmt := tp 36
abbrev sShuf : Stmt := tp 37
abbrev sName : Stmt := tp 38
abbrev sNames : Stmt := tp 39
abbrev sTop : Stmt := tp 40
abbrev sFalls : Stmt := tp 41
abbrev sDrawn : Stmt := tp 42
abbrev sTold : Stmt := tp 43
abbrev sLRises : Stmt := tp 44
abbrev sTurn : Stmt := tp 45
abbrev sLaw : Stmt := tp 46
abbrev sIniNR : Stmt := inClass (tp 12) 0
/-- the built-ins that the top leaves -/
structure Txt (mg : Str → Option Value) : Prop where
  len : mg "len" = none
  abs : mg "abs" = none
  max : mg "max" = none
  min : mg "min" = none
  divmod : mg "divmod" = none
  isinstance : mg "isinstance" = none
  str : mg "str" = none
  int : mg "int" = none
  bool : mg "bool" = none
  tuple : mg "tuple" = none
  list : mg "list" = none
  dict : mg "dict" = none
  set : mg "set" = none
  all : mg "all" = none
  sum : mg "sum" = none
  range : mg "range" = none
  zip : mg "zip" = none
  enumerate : mg "enumerate" = none
  repr : mg "repr" = none
section
variable {P : Program} {w : World} {K : PySem.W.Frag} {mg : Str → Option Value} {base : Heap}
theorem scR : FnScope ["_law_script", "_law_k", "_law_cell"] ["_law_script", "_law_k"] (defScope sRng) :=
  ⟨rfl, rfl, rfl, by decide +kernel, rfl, by decide +kernel, by decide +kernel⟩
theorem d_rng (F : Df K mg "_law_rng" sRng ["_law_script", "_law_k"]) (T : Txt mg) : Dn P w K mg base CX0 1 "_law_rng" ["_law_script", "_law_k"] (spRng K) := by
  refine F.ok scR (fun vs H Q E h => ?_) (fun f cdv A outer s H vs Q E hr h => ?_)
  · obtain ⟨a, ns, k, rfl, _⟩ := h
    rfl
  · obtain ⟨a, ns, k, rfl, hS, k0, k1, q⟩ := h
    refine ⟨_, (pss_cons (ps_set (i := 2) scR.nd rfl (Or.inl rfl) (pe_ifExp (pt_cmpR op_lt (pv 1) (pe_callB call_len_seq (by rfl) T.len PySem.boot_len (pa_cons (pv 0) pa_nil)) (nomark _)) (pe_callB call_abs (by rfl) T.abs (by decide +kernel) (pa_cons (pe_ix ix_list (pv 0) (pv 1) (fun _ _ => rfl)) pa_nil)) pe_int))
      (pss_one (ps_ret (pe_lst (pa_cons (pe_callB (call_max2 rfl) (by rfl) T.max (by decide +kernel) (pa_cons pe_int (pa_cons (pe_op op_sub (pv 2) (pe_op op_pow pe_int pe_int)) pa_nil))) (pa_cons (pe_op op_add (pe_op op_mod (pe_op op_pow (pe_op op_add (pe_op op_add (pe_op op_mod (pv 2) pe_int) (pe_op op_mul pe_int (pv 1))) pe_int) pe_int) pe_int) pe_int) pa_nil)))))), ?_⟩
    refine ⟨_, rfl, _, rfl, a, _, rfl, .inl hS, _, _, rfl, rfl, _, rfl, ?_⟩
    have fin : ∀ c : Int, 0 ≤ c → ∀ (x y : Int), x = (if c - 10 ^ (18 : Int).toNat > 0 then c - 10 ^ (18 : Int).toNat else 0) →
        y = (c % 2147483543 + 101 * k + 7) ^ (2 : Int).toNat % 2147483497 + 1 → 0 ≤ x ∧ 0 ≤ y ∧ y < 2147483587 := by
      intro c hc x y hx hy
      have e1 := Int.emod_nonneg ((c % 2147483543 + 101 * k + 7) ^ (2 : Int).toNat) (by decide : (2147483497 : Int) ≠ 0)
      have e2 := Int.emod_lt_of_pos ((c % 2147483543 + 101 * k + 7) ^ (2 : Int).toNat) (by decide : (0 : Int) < 2147483497)
      refine ⟨?_, by omega, by omega⟩
      rw [hx]
      split <;> omega
    have tail : ∀ c : Int, 0 ≤ c → ∀ p, H p = none → ∀ (x y : Int), 0 ≤ x ∧ 0 ≤ y ∧ y < 2147483587 → Q (.ref p) (upd H p (.lst [.int x, .int y])) := by
      intro c hc p hp x y hxy
      exact q p _ hp (fun b o e => by rw [upd_ne (ne_of_none e hp)]; exact e) ⟨x, y, upd_same, hxy⟩
    have bnd : ∀ c : Int, (c % 2147483543 + 101 * k + 7).natAbs < 2 ^ 64 := fun c => by
      have e1 := Int.emod_nonneg c (by decide : (2147483543 : Int) ≠ 0)
      have e2 := Int.emod_lt_of_pos c (by decide : (0 : Int) < 2147483543)
      omega
    refine ite2 (fun hlt => ?_) (fun _ => ?_)
    · have hlt' : k < (ns.map V.int).length := of_decide_eq_true hlt
      have hk : k = ((k.toNat : Nat) : Int) := by omega
      have hk2 : k.toNat < ns.length := by rw [List.length_map] at hlt'; omega
      refine ⟨_, rfl, _, rfl, a, _, _, .int (ns[k.toNat]), rfl, rfl, hS, at_in k0 (by simp [hk2]), _, rfl, ?_⟩
      have hc : (0 : Int) ≤ if ns[k.toNat] < 0 then -ns[k.toNat] else ns[k.toNat] := by split <;> omega
      generalize (if ns[k.toNat] < 0 then -ns[k.toNat] else ns[k.toNat]) = c at hc
      refine ⟨_, rfl, _, _, rfl, rfl, ⟨by decide, by decide, by decide⟩, _, _, rfl, rfl, _, _, rfl, ?_⟩
      refine ⟨_, rfl, _, _, rfl, rfl, (by show (0 : Int) < 2147483543; decide), _, rfl, _, _, rfl, rfl, .inl ⟨by decide, by decide⟩, _, _, rfl, rfl, _, _, rfl, rfl, _, _, rfl, rfl, ⟨by decide, by decide, bnd c⟩, _, _, rfl, rfl, (by show (0 : Int) < 2147483497; decide), _, _, rfl, rfl, (by show 2 ≤ sizeLine; decide), fun p hp => ?_⟩
      exact tail c hc p hp _ _ (fin c hc _ _ rfl rfl)
    · refine ⟨_, rfl, _, _, rfl, rfl, ⟨by decide, by decide, by decide⟩, _, _, rfl, rfl, _, _, rfl, ?_⟩
      refine ⟨_, rfl, _, _, rfl, rfl, (by show (0 : Int) < 2147483543; decide), _, rfl, _, _, rfl, rfl, .inl ⟨by decide, by decide⟩, _, _, rfl, rfl, _, _, rfl, rfl, _, _, rfl, rfl, ⟨by decide, by decide, bnd 0⟩, _, _, rfl, rfl, (by show (0 : Int) < 2147483497; decide), _, _, rfl, rfl, (by show 2 ≤ sizeLine; decide), fun p hp => ?_⟩
      exact tail 0 (by decide) p hp _ _ (fin 0 (by decide) _ _ rfl rfl)
theorem scD : FnScope ["_law_rng_here", "_law_many", "_law_digit"] ["_law_rng_here", "_law_many"] (defScope sDraw) :=
  ⟨rfl, rfl, rfl, by decide +kernel, rfl, by decide +kernel, by decide +kernel⟩
theorem d_draw (F : Df K mg "_law_draw" sDraw ["_law_rng_here", "_law_many"]) (T : Txt mg) : Dn P w K mg base CX0 1 "_law_draw" ["_law_rng_here", "_law_many"] spDraw := by
  refine F.ok scD (fun vs H Q E h => ?_) (fun f cdv A outer s H vs Q E hr h => ?_)
  · obtain ⟨r, m, rfl, _⟩ := h
    rfl
  · obtain ⟨r, m, rfl, R, m0, m1, q⟩ := h
    obtain ⟨a, b, hL, a0, b0, b1⟩ := R
    refine ⟨_, (pss_cons (ps_if (pt_cmpR op_gt (pe_ix ixL (pv 0) pe_int (fun _ _ => rfl)) pe_int (nomark _)) (pss_cons (ps_asg (pe_callB call_divmodW (by rfl) T.divmod (by decide +kernel) (pa_cons (pe_ix ixL (pv 0) pe_int (fun _ _ => rfl)) (pa_cons (pv 1) pa_nil))) (pg_tup rfl (pgs_cons (pg_sub (pv 0) pe_int set_list) (pgs_cons (pg_name (i := 2) scD.nd rfl (Or.inl rfl)) pgs_nil))))
      (pss_one (ps_ret (pv 2)))) pss_nil)
      (pss_cons (ps_asg (pe_op op_mod (pe_op op_add (pe_op op_mul (pe_ix ixL (pv 0) pe_int (fun _ _ => rfl)) pe_int) pe_int) pe_int) (pg_sub (pv 0) pe_int set_list))
      (pss_one (ps_ret (pe_op op_mod (pe_op op_fdiv (pe_op op_mod (pe_op op_mul (pe_ix ixL (pv 0) pe_int (fun _ _ => rfl)) (pe_ix ixL (pv 0) pe_int (fun _ _ => rfl))) pe_int) pe_int) (pv 1)))))), ?_⟩
    refine ⟨_, rfl, r, _, _, _, rfl, rfl, hL, rfl, _, _, rfl, rfl, _, rfl, ?_⟩
    refine ite2 (fun hgt => ?_) (fun _ => ?_)
    · refine ⟨_, rfl, r, _, _, _, rfl, rfl, hL, rfl, _, rfl, _, _, rfl, ⟨m0, PyProof.noPylong_of_log2 (Nat.lt_of_lt_of_le (PySem.Flt.log2_lt_of (by decide) m1) (by decide))⟩, fun p hp => ?_⟩
      have nrp : r ≠ p := ne_of_none hL hp
      refine ⟨p, _, rfl, SqT.of upd_same, rfl, ?_⟩
      refine ⟨_, _, rfl, _, rfl, r, _, _, _, rfl, rfl, (by rw [upd_ne nrp]; exact hL), rfl, ?_⟩
      refine ⟨_, _, rfl, rfl, _, rfl, ?_⟩
      refine q _ _ ((Ext.new hp).trans Ext.at) ⟨_, _, upd_same, Int.ediv_nonneg a0 (by omega), b0, b1⟩ (Int.emod_nonneg _ (by omega)) (Int.emod_lt_of_pos _ m0)
    · refine ⟨_, rfl, r, _, _, _, rfl, rfl, hL, rfl, _, _, rfl, rfl, .inr ⟨by decide, by decide⟩, _, _, rfl, rfl, _, _, rfl, rfl, (by show (0 : Int) < 2147483587; decide), ?_⟩
      refine ⟨_, rfl, r, _, _, _, rfl, rfl, hL, rfl, ?_⟩
      have c0 := Int.emod_nonneg (b * 48271 + 10007) (by decide : (2147483587 : Int) ≠ 0)
      have c1 := Int.emod_lt_of_pos (b * 48271 + 10007) (by decide : (0 : Int) < 2147483587)
      refine ⟨_, rfl, r, _, _, _, rfl, rfl, upd_same, rfl, _, rfl, r, _, _, _, rfl, rfl, upd_same, rfl, _, _, rfl, rfl, .inl ⟨Int.lt_of_lt_of_le (by decide) c0, Int.lt_trans c1 (by decide)⟩, _, _, rfl, rfl, (by show (0 : Int) < 2147483549; decide), _, _, rfl, rfl, ⟨by decide, by decide⟩, _, rfl, _, _, rfl, rfl, m0, ?_⟩
      exact q _ _ Ext.at ⟨_, _, upd_same, a0, c0, c1⟩ (Int.emod_nonneg _ (by omega)) (Int.emod_lt_of_pos _ m0)
theorem scC : FnScope ["_law_rng_here", "_law_options"] ["_law_rng_here", "_law_options"] (defScope sChoice) :=
  ⟨rfl, rfl, rfl, by decide +kernel, rfl, by decide +kernel, by decide +kernel⟩
theorem d_choice (F : Df K mg "_law_choice" sChoice ["_law_rng_here", "_law_options"]) (T : Txt mg) (DD : Dn P w K mg base CX0 1 "_law_draw" ["_law_rng_here", "_law_many"] spDraw) : Dn P w K mg base CX0 2 "_law_choice" ["_law_rng_here", "_law_options"] (spChoice K) := by
  refine F.ok scC (fun vs H Q E h => ?_) (fun f cdv A outer s H vs Q E hr h => ?_)
  · obtain ⟨r, l, xs, rfl, _⟩ := h
    rfl
  · obtain ⟨r, l, xs, rfl, R, hl, nl, x0, x1, q⟩ := h
    refine ⟨_, (pss_one (ps_ret (pe_ix ix_list (pv 1) (pe_cD DD hr pass0 (pa_cons (pv 0) (pa_cons (pe_callB call_len_seq (by rfl) T.len PySem.boot_len (pa_cons (pv 1) pa_nil)) pa_nil))) (fun _ _ => rfl)))), ?_⟩
    refine ⟨_, rfl, _, rfl, _, rfl, l, _, rfl, .inl hl, r, _, rfl, R, by omega, by omega, fun d H' E' R' d0 d1 => ?_⟩
    have hd2 : d.toNat < xs.length := by omega
    refine ⟨l, _, _, xs[d.toNat], rfl, rfl, E'.sqL nl hl, at_in d0 (by simp [hd2]), ?_⟩
    exact q _ _ E' R' (List.getElem_mem _)
/-- a new list of the same things in some order -/
def spShuf (K : PySem.W.Frag) : Sp := fun vs H Q _ => ∃ (r l : Addr) (xs : List V), vs = [.ref r, .ref l] ∧ Rng H r ∧ SqL K H l xs ∧ l ≠ r ∧ xs.length ≤ 1000 ∧
  ∀ (p : Addr) (ys : List V) (H' : Hp), Ext r H H' → Rng H' r → H p = none → p ≠ r → H' p = some (.lst ys) → ys.Perm xs → Q (.ref p) H'
theorem scSh : FnScope ["_law_rng_here", "_law_values", "_law_pool", "_law_k"] ["_law_rng_here", "_law_values"] (defScope sShuf) :=
  ⟨rfl, rfl, rfl, by decide +kernel, rfl, by decide +kernel, by decide +kernel⟩
theorem d_shuf (F : Df K mg "_law_shuffled" sShuf ["_law_rng_here", "_law_values"]) (T : Txt mg) (DD : Dn P w K mg base CX0 1 "_law_draw" ["_law_rng_here", "_law_many"] spDraw) : Dn P w K mg base CX0 2 "_law_shuffled" ["_law_rng_here", "_law_values"] (spShuf K) := by
  refine F.ok scSh (fun vs H Q E h => ?_) (fun f cdv A outer s H vs Q E hr h => ?_)
  · obtain ⟨r, l, xs, rfl, _⟩ := h
    rfl
  · obtain ⟨r, l, xs, rfl, R, hl, nl, x1, q⟩ := h
    refine ⟨_, (pss_cons (ps_set (i := 2) scSh.nd rfl (Or.inr rfl) (pe_callTy call_list_of (by rfl) T.list (by decide +kernel) (pa_cons (pv 1) pa_nil)))
      (pss_one (ps_ret (pe_lc (own := [("_law_k", 3)]) (g := (gName 3)) (tt := tYes) rfl scSh.nd (pi_range1 (by rfl) T.range (pa_cons (pe_callB call_len_seq (by rfl) T.len PySem.boot_len (pa_cons (pv 1) pa_nil)) pa_nil)) (blkOk_by (own := [("_law_k", 3)]) (N := ["_law_rng_here", "_law_values", "_law_pool", "_law_k"]) (sc := defScope sShuf) (by decide +kernel)) (fun _ _ _ _ _ => (pg_name (i := 3) scSh.nd rfl (Or.inl rfl))) (fun _ _ _ _ _ => pts_nil) (fun _ _ _ _ _ => (pe_bl PySem.F.plainAttrs_list PySem.F.slot_list_pop PySem.F.type_list_pop mt_popAt (pv 2) (pa_cons (pe_cD DD hr pass0 (pa_cons (pv 0) (pa_cons (pe_callB lenL (by rfl) T.len PySem.boot_len (pa_cons (pv 2) pa_nil)) pa_nil))) pa_nil))))))), ?_⟩
    refine ⟨_, rfl, l, xs, rfl, .inl hl, fun p hp => ?_⟩
    have nrp : r ≠ p := R.free hp
    have hl2 : SqL K (upd H p (.lst xs)) l xs := by
      rcases hl with (h | ⟨o, h⟩) | h
      · exact .inl (.inl (by rw [upd_ne (ne_of_none h hp)]; exact h))
      · exact .inl (.inr ⟨o, by rw [upd_ne (ne_of_none h hp)]; exact h⟩)
      · exact .inr h
    refine ⟨_, rfl, l, _, rfl, .inl hl2, ?_⟩
    refine ⟨_, rfl, by omega, by omega, fun D hD => ?_⟩
    have npD : p ≠ D := ne_of_none upd_same hD
    have hD0 : H D = none := same_none (new_same hp) hD
    have nrD : r ≠ D := R.free hD0
    refine lc_range (lo := 0) (n := xs.length) (fun i J => Ext r H J ∧ Rng J r ∧ ∃ rest acc : List V, J p = some (.lst rest) ∧ J D = some (.lst acc) ∧ (acc ++ rest).Perm xs ∧ acc.length = i)
      ⟨(Ext.new hp).trans (Ext.new hD), (R.new hp).new hD, xs, [], by rw [upd_ne npD, upd_same], upd_same, .refl _, rfl⟩ ?_ ?_
    · rintro i J hi ⟨EJ, RJ, rest, acc, jp, jD, pm, la⟩
      have lr : rest.length + i = xs.length := by
        have := pm.length_eq
        simp at this
        omega
      refine ⟨rfl, yesT ?_⟩
      refine ⟨_, rfl, ⟨p, rfl, .inl ⟨rfl, _, jp⟩⟩, _, rfl, _, rfl, p, _, rfl, jp, r, _, rfl, RJ, by omega, by omega, fun d J2 E2 R2 d0 d1 => ?_⟩
      have hd2 : d.toNat < rest.length := by omega
      have jp2 := E2 _ _ nrp.symm jp
      have jD2 := E2 _ _ nrD.symm jD
      refine ⟨p, rest, d, d.toNat, rest[d.toNat], rfl, rfl, jp2, by omega, by omega, ?_, List.getElem?_eq_getElem hd2, acc, ?_, ?_, ?_⟩
      · have e : d = ((d.toNat : Nat) : Int) := by omega
        rw [e]
        simp [seqIndex?]
        omega
      · rw [upd_ne npD.symm]
        exact jD2
      · rw [la, sizeLine_eq]
        omega
      · refine ⟨ext_put (ext_put (EJ.trans E2) hp) hD0, (R2.put nrp.symm).put nrD.symm, rest.eraseIdx d.toNat, acc ++ [rest[d.toNat]], ?_, upd_same, ?_, by simp [la]⟩
        · rw [upd_ne npD, upd_same]
        · refine List.Perm.trans ?_ pm
          rw [List.append_assoc]
          refine List.Perm.append_left acc ?_
          exact L2.erase_perm rest d.toNat _ (List.getElem?_eq_getElem hd2)
    · rintro J ⟨EJ, RJ, rest, acc, jp, jD, pm, la⟩
      have lr : rest = [] := by
        have := pm.length_eq
        simp at this
        exact List.eq_nil_of_length_eq_zero (by omega)
      rw [lr, List.append_nil] at pm
      exact q D acc J EJ RJ hD0 nrD.symm jD pm
end
end N23
set_option maxHeartbeats 1000000
namespace N23
open PySem PySem.Spec PyProof.Rows L2 G
instance (z : Str) : Decidable (NameOk z) := by unfold NameOk; infer_instance
theorem words_ok : ∀ w ∈ (["module", "publish", "state", "run", "undo", "steps", "plan", "talk"] : List Str), NameOk w := by decide +kernel
theorem let_at {i : Nat} (h : i < 26) : atI LET.cps.toList (i : Int) = some (LET.cps.toList.getD i 0) := by
  refine atI_nat ?_
  have h2 : i < LET.cps.toList.length := by rw [letLen]; exact h
  rw [List.getElem?_eq_getElem h2, List.getD_eq_getElem?_getD, List.getElem?_eq_getElem h2]
  rfl
theorem strs_flat (us : List Str) : (us.map V.str).all flatV = true := by
  induction us with
  | nil => rfl
  | cons u r ih => rw [List.map_cons, List.all_cons, ih]; rfl
theorem inV_str (z : Str) (us : List Str) : inV (.str z) (us.map V.str) = decide (z ∈ us) := by
  induction us with
  | nil => rfl
  | cons u r ih =>
    unfold inV at ih ⊢
    rw [List.map_cons, List.any_cons, ih]
    by_cases e : u = z
    · subst e; simp [eqV]
    · have e2 : ¬ z = u := fun h => e h.symm
      simp [eqV, e, e2]
def spName : Sp := fun vs H Q _ => ∃ (r l : Addr) (us : List Str), vs = [.ref r, .ref l] ∧ Rng H r ∧ H l = some (.lst (us.map V.str)) ∧ us.length < 600 ∧
  ∀ (z : Str) (H' : Hp), Ext r H H' → Rng H' r → NameOk z → z ∉ us → Q (.str z) H'
section
variable {P : Program} {w : World} {K : PySem.W.Frag} {mg : Str → Option Value} {base : Heap}
theorem scNm : FnScope ["_law_rng_here", "_law_used", "_law_letters", "_law_length", "_law_name_here", "_law_k", "_law_word"] ["_law_rng_here", "_law_used"] (defScope sName) :=
  ⟨rfl, rfl, rfl, by decide +kernel, rfl, by decide +kernel, by decide +kernel⟩
theorem d_name (F : Df K mg "_law_name" sName ["_law_rng_here", "_law_used"]) (T : Txt mg) (DD : Dn P w K mg base CX0 1 "_law_draw" ["_law_rng_here", "_law_many"] spDraw) : Dn P w K mg base CX0 2 "_law_name" ["_law_rng_here", "_law_used"] spName := by
  refine F.ok scNm (fun vs H Q E h => ?_) (fun f cdv A outer s H vs Q E hr h => ?_)
  · obtain ⟨r, l, us, rfl, _⟩ := h
    rfl
  · obtain ⟨r, l, us, rfl, R, hl, lu, q⟩ := h
    have nl : l ≠ r := R.ne hl (by intro a b z; cases us with | nil => cases z | cons u t => cases z)
    refine ⟨_, (pss_cons (ps_set (i := 2) scNm.nd rfl (Or.inr rfl) pe_str)
      (pss_cons (ps_set (i := 3) scNm.nd rfl (Or.inl rfl) (pe_ix ixL (pe_lst (pa_cons pe_int (pa_cons pe_int (pa_cons pe_int (pa_cons (pe_op op_add pe_int (pe_cD DD hr pass0 (pa_cons (pv 0) (pa_cons pe_int pa_nil)))) pa_nil))))) (pe_cD DD hr pass0 (pa_cons (pv 0) (pa_cons pe_int pa_nil))) (fun _ _ => rfl)))
      (pss_cons (ps_set (i := 4) scNm.nd rfl (Or.inr rfl) (pe_join pe_str (pe_lc (own := [("_law_k", 5)]) (g := (gName 5)) (tt := tYes) rfl scNm.nd (pi_range1 (by rfl) T.range (pa_cons (pv 3) pa_nil)) (blkOk_by (own := [("_law_k", 5)]) (N := ["_law_rng_here", "_law_used", "_law_letters", "_law_length", "_law_name_here", "_law_k", "_law_word"]) (sc := defScope sName) (by decide +kernel)) (fun _ _ _ _ _ => (pg_name (i := 5) scNm.nd rfl (Or.inl rfl))) (fun _ _ _ _ _ => pts_nil) (fun _ _ _ _ _ => (pe_ix ix_str (pv 2) (pe_cD DD hr pass0 (pa_cons (pv 0) (pa_cons pe_int pa_nil))) (fun _ _ => rfl))))))
      (pss_cut (ps_if (pt_cmpR op_eq (pe_cD DD hr pass0 (pa_cons (pv 0) (pa_cons pe_int pa_nil))) pe_int (nomark _)) (pss_one (ps_set (i := 4) scNm.nd rfl (Or.inr rfl) (pe_ix ixL (pe_lst (pa_cons pe_str (pa_cons pe_str (pa_cons pe_str (pa_cons pe_str (pa_cons pe_str (pa_cons pe_str (pa_cons pe_str (pa_cons pe_str pa_nil))))))))) (pe_cD DD hr pass0 (pa_cons (pv 0) (pa_cons pe_int pa_nil))) (fun _ _ => rfl)))) pss_nil)
      (pss_cons (ps_if (pt_cmpR notInL (pv 4) (pv 1) (by rfl)) (pss_one (ps_ret (pv 4))) pss_nil)
      (pss_one (ps_ret (pe_ix ixL (pe_lc (own := [("_law_word", 6)]) (g := (gName 6)) rfl scNm.nd (pi_list (pe_lc (own := [("_law_k", 5)]) (g := (gName 5)) (tt := tYes) rfl scNm.nd (pi_range1 (by rfl) T.range (pa_cons pe_int pa_nil)) (blkOk_by (own := [("_law_k", 5)]) (N := ["_law_rng_here", "_law_used", "_law_letters", "_law_length", "_law_name_here", "_law_k", "_law_word"]) (sc := defScope sName) (by decide +kernel)) (fun _ _ _ _ _ => (pg_name (i := 5) scNm.nd rfl (Or.inl rfl))) (fun _ _ _ _ _ => pts_nil) (fun _ _ _ _ _ => (pe_op op_add_str (pe_op op_add_str (pe_slice sl_str (pv 4) po_none (po_some pe_int)) (pe_ix ix_str (pv 2) (pe_op op_fdiv (pv 5) pe_int) (fun _ _ => rfl))) (pe_ix ix_str (pv 2) (pe_op op_mod (pv 5) pe_int) (fun _ _ => rfl)))))) (blkOk_by (own := [("_law_word", 6)]) (N := ["_law_rng_here", "_law_used", "_law_letters", "_law_length", "_law_name_here", "_law_k", "_law_word"]) (sc := defScope sName) (by decide +kernel)) (fun _ _ _ _ _ => (pg_name (i := 6) scNm.nd rfl (Or.inl rfl))) (fun _ _ _ _ _ => (pts_one (pt_cmpR notInL (pv 6) (pv 1) (by rfl)))) (fun _ _ _ _ _ => (pv 6))) pe_int (fun _ _ => rfl))))))))), ?_⟩
    refine ⟨_, rfl, r, _, rfl, R, by decide, by decide, fun d H1 E1 R1 d0 d1 => ?_⟩
    refine ⟨_, _, rfl, rfl, (by show 4 ≤ sizeLine; decide), fun p hp => ?_⟩
    have nrp : r ≠ p := R1.free hp
    refine ⟨_, rfl, r, _, rfl, R1.new hp, by decide, by decide, fun e H2 E2 R2 e0 e1 => ?_⟩
    have hp2 := E2 _ _ nrp.symm upd_same
    obtain ⟨n, hn, n1, n8⟩ : ∃ n : Int, atI [V.int 1, .int 1, .int 2, .int (1 + d)] e = some (.int n) ∧ 1 ≤ n ∧ n ≤ 8 := by
      have c : e = 0 ∨ e = 1 ∨ e = 2 ∨ e = 3 := by omega
      rcases c with rfl | rfl | rfl | rfl
      · exact ⟨1, rfl, by decide, by decide⟩
      · exact ⟨1, rfl, by decide, by decide⟩
      · exact ⟨2, rfl, by decide, by decide⟩
      · exact ⟨1 + d, rfl, by omega, by omega⟩
    refine ⟨p, _, _, _, rfl, rfl, hp2, hn, ?_⟩
    have X2 : Ext r H H2 := (E1.trans (Ext.new hp)).trans E2
    refine ⟨⟨_, rfl⟩, _, rfl, _, rfl, by omega, by omega, fun D hD => ?_⟩
    have nrD : r ≠ D := R2.free hD
    have hD0 : H D = none := X2.none nrD.symm hD
    refine lc_range (lo := 0) (n := n.toNat) (fun i J => Ext r H J ∧ Rng J r ∧ ∃ ys : List Str, J D = some (.lst (ys.map V.str)) ∧ ys.length = i ∧ ∀ y ∈ ys, ∃ c, c ∈ LET.cps.toList ∧ y = ⟨#[c]⟩)
      ⟨X2.trans (Ext.new hD), R2.new hD, [], upd_same, rfl, fun _ z => by cases z⟩ ?_ ?_
    · rintro i J hi ⟨EJ, RJ, ys, hJ, ly, hy⟩
      refine ⟨rfl, yesT ?_⟩
      refine ⟨_, rfl, _, rfl, r, _, rfl, RJ, by decide, by decide, fun g J2 E3 R3 g0 g1 => ?_⟩
      obtain ⟨c, hc, hm⟩ := at_mem (xs := LET.cps.toList) g0 (by rw [letLen]; exact g1)
      have hJ2 := E3 _ _ nrD.symm hJ
      refine ⟨_, _, c, rfl, rfl, by decide +kernel, hc, _, hJ2, ?_, ?_⟩
      · rw [List.length_map, ly, sizeLine_eq]
        omega
      · refine ⟨ext_put (EJ.trans E3) hD0, R3.put nrD.symm, ys ++ [⟨#[c]⟩], ?_, by simp [ly], fun y z => ?_⟩
        · rw [upd_same, List.map_append]
          rfl
        · rcases List.mem_append.mp z with z | z
          · exact hy y z
          · exact ⟨c, hm, List.mem_singleton.mp z⟩
    · rintro J ⟨EJ, RJ, ys, hJ, ly, hy⟩
      have jo := join_one ys hy
      have jo2 : NameOk (Txt.join "" ys) := by
        rw [TL.join_eq]
        exact ⟨by rw [jo.1]; omega, by rw [jo.1]; omega, jo.2⟩
      have su : (ys.map (·.length)).sum ≤ 8 := by
        have a : (Txt.join "" ys).length = (ys.map (·.length)).sum + (ys.length - 1) * ("" : Str).length := PySem.size_glued "" ys
        have b := jo2.2.1
        have c : ("" : Str).length = 0 := by decide
        rw [c] at a
        omega
      refine ⟨_, D, ys, rfl, rfl, .inl (SqL.of hJ), by simp only [show (Str.ofString "").length = 0 from by decide]; omega, ?_⟩
      generalize Txt.join "" ys = z0 at jo2
      refine ⟨fun σ J => ∃ z : Str, NameOk z ∧ Ext r H J ∧ Rng J r ∧ σ = [some (.ref r), some (.ref l), some (.str LET), some (.int n), some (.str z), none, none], ?_, ?_⟩
      · rintro σ J3 ⟨z, hz, E3, R3, rfl⟩
        have hl3 := E3 _ _ nl hl
        refine ⟨_, rfl, _, rfl, l, _, rfl, hl3, rfl, strs_flat us, _, rfl, ?_⟩
        rw [if_pos rfl, inV_str]
        by_cases m : z ∈ us
        · rw [decide_eq_true m]
          refine iteF ?_
          refine ⟨_, rfl, by decide, by decide, fun D1 hD1 => ?_⟩
          have nD1 : r ≠ D1 := R3.free hD1
          have hD10 : H D1 = none := E3.none nD1.symm hD1
          refine lc_range (lo := 0) (n := 676) (fun i J => Ext r H J ∧ Rng J r ∧ J D1 = some (.lst (((List.range i).map (wordAt z)).map V.str)))
            ⟨E3.trans (Ext.new hD1), R3.new hD1, upd_same⟩ ?_ ?_
          · rintro i J4 hi ⟨E4, R4, h4⟩
            refine ⟨rfl, yesT ?_⟩
            have z8 := hz.2.1
            have e1 : (0 + (i : Int)) / 26 = ((i / 26 : Nat) : Int) := by omega
            have e2 : (0 + (i : Int)) % 26 = ((i % 26 : Nat) : Int) := by omega
            have cl : (cutS z none (some 6)).length ≤ 8 := Nat.le_trans (cutS_length z none (some 6)) z8
            refine ⟨_, rfl, _, rfl, _, rfl, Nat.le_trans z8 (by decide), ?_⟩
            refine ⟨_, rfl, _, rfl, _, _, rfl, rfl, ⟨by decide, by decide⟩, _, _, _, rfl, rfl, by decide +kernel, (by rw [e1]; exact let_at (by omega)), ?_⟩
            refine ⟨_, _, rfl, rfl, ?_, ?_⟩
            · show _ ≤ sizeLine
              have : (letAt (i / 26)).length = 1 := rfl
              rw [sizeLine_eq]
              show _ + (letAt (i / 26)).length ≤ _
              omega
            refine ⟨_, rfl, _, rfl, _, _, rfl, rfl, (by show (0 : Int) < 26; decide), _, _, _, rfl, rfl, by decide +kernel, (by rw [e2]; exact let_at (by omega)), ?_⟩
            refine ⟨_, _, rfl, rfl, ?_, ?_⟩
            · show (cutS z none (some 6) ++ letAt (i / 26)).length + (letAt (i % 26)).length ≤ sizeLine
              rw [strLen_append, sizeLine_eq]
              have : (letAt (i / 26)).length = 1 := rfl
              have : (letAt (i % 26)).length = 1 := rfl
              omega
            refine ⟨_, h4, ?_, ext_put E4 hD10, R4.put nD1.symm, ?_⟩
            · simp only [List.length_map, List.length_range]
              rw [sizeLine_eq]
              omega
            · rw [upd_same, List.range_succ, List.map_append, List.map_append]
              rfl
          · rintro J4 ⟨E4, R4, h4⟩
            refine ⟨D1, rfl, ⟨_, SqL.of h4⟩, fun D2 hD2 => ?_⟩
            have nD2 : r ≠ D2 := R4.free hD2
            have hD20 : H D2 = none := E4.none nD2.symm hD2
            have n12 : D1 ≠ D2 := ne_of_none h4 hD2
            refine lc_list (K := K) (a := D1) (xs := ((List.range 676).map (wordAt z)).map V.str)
              (fun i J => Ext r H J ∧ Rng J r ∧ J D1 = some (.lst (((List.range 676).map (wordAt z)).map V.str)) ∧
                J D2 = some (.lst (((((List.range 676).map (wordAt z)).take i).filter fun x => decide (x ∉ us)).map V.str)))
              ⟨E4.trans (Ext.new hD2), R4.new hD2, by rw [upd_ne n12]; exact h4, upd_same⟩ (fun i J _ h => SqL.of h.2.2.1) ?_ ?_
            · rintro i x J5 hx ⟨E5, R5, h5, h6⟩
              rw [List.getElem?_map] at hx
              cases hw : ((List.range 676).map (wordAt z))[i]? with
              | none => rw [hw] at hx; cases hx
              | some y =>
                rw [hw] at hx
                cases hx
                have hl5 := E5 _ _ nl hl
                refine ⟨rfl, _, rfl, _, rfl, l, _, rfl, hl5, rfl, strs_flat us, _, rfl, ?_⟩
                rw [if_pos rfl, inV_str]
                have tk := take_next hw
                by_cases my : y ∈ us
                · rw [decide_eq_true my]
                  refine iteF ⟨E5, R5, h5, ?_⟩
                  rw [h6, tk, List.filter_append, List.filter_cons_of_neg (by simpa using my), List.filter_nil, List.append_nil]
                · rw [decide_eq_false my]
                  refine iteT ⟨_, rfl, _, h6, ?_, ext_put E5 hD20, R5.put nD2.symm, ?_, ?_⟩
                  · rw [List.length_map, sizeLine_eq]
                    have e3 := List.length_filter_le (fun x => decide (x ∉ us)) (((List.range 676).map (wordAt z)).take i)
                    have e4 : (((List.range 676).map (wordAt z)).take i).length ≤ 676 := by simp; omega
                    omega
                  · rw [upd_ne n12]; exact h5
                  · rw [upd_same, tk, List.filter_append, List.filter_cons_of_pos (by simpa using my), List.filter_nil, List.map_append]
                    rfl
            · rintro J5 ⟨E5, R5, h5, h6⟩
              have ft : ((List.range 676).map (wordAt z)).take (((List.range 676).map (wordAt z)).map V.str).length = (List.range 676).map (wordAt z) := List.take_of_length_le (by simp)
              rw [ft] at h6
              cases hf : ((List.range 676).map (wordAt z)).filter (fun x => decide (x ∉ us)) with
              | nil => exact absurd hf (words_free (by omega))
              | cons y t =>
                have my : y ∈ ((List.range 676).map (wordAt z)).filter (fun x => decide (x ∉ us)) := by rw [hf]; exact List.mem_cons_self
                obtain ⟨m1, m2⟩ := List.mem_filter.mp my
                obtain ⟨k, hk, rfl⟩ := List.mem_map.mp m1
                rw [hf] at h6
                refine ⟨D2, _, _, _, rfl, rfl, h6, at_in (by decide) rfl, ?_⟩
                exact q _ _ E5 R5 (word_ok hz (List.mem_range.mp hk)) (by simpa using m2)
        · rw [decide_eq_false m]
          refine iteT ⟨_, rfl, ?_⟩
          exact q z J3 E3 R3 hz m
      · refine ⟨_, rfl, r, _, rfl, RJ, by decide, by decide, fun g J2 E3 R3 g0 g1 => ?_⟩
        refine ⟨rfl, _, rfl, ?_⟩
        refine ite2 (fun _ => ?_) (fun _ => ?_)
        · refine ⟨(by show 8 ≤ sizeLine; decide), fun p2 hp2 => ?_⟩
          have nr2 : r ≠ p2 := R3.free hp2
          refine ⟨_, rfl, r, _, rfl, R3.new hp2, by decide, by decide, fun k J3 E4 R4 k0 k1 => ?_⟩
          obtain ⟨v, hv, hm⟩ := at_mem (xs := (["module", "publish", "state", "run", "undo", "steps", "plan", "talk"] : List Str).map V.str) k0 k1
          obtain ⟨w0, hw, rfl⟩ := List.mem_map.mp hm
          refine ⟨p2, _, _, _, rfl, rfl, E4 _ _ nr2.symm upd_same, hv, ?_⟩
          exact ⟨w0, words_ok w0 hw, ((EJ.trans E3).trans (Ext.new hp2)).trans E4, R4, rfl⟩
        · exact ⟨z0, jo2, EJ.trans E3, R3, rfl⟩
def spNames : Sp := fun vs H Q _ => ∃ (r l : Addr) (us : List Str) (m : Int), vs = [.ref r, .int m, .ref l] ∧ Rng H r ∧ H l = some (.lst (us.map V.str)) ∧ us.length ≤ 100 ∧ 0 ≤ m ∧ m ≤ 100 ∧
  ∀ (p : Addr) (zs : List Str) (H' : Hp), Ext r H H' → Rng H' r → H p = none → p ≠ r → H' p = some (.lst (zs.map V.str)) → (zs.length : Int) = m → zs.Nodup → (∀ z ∈ zs, NameOk z ∧ z ∉ us) → Q (.ref p) H'
theorem scNs : FnScope ["_law_rng_here", "_law_many", "_law_used", "_law_found", "_law_k"] ["_law_rng_here", "_law_many", "_law_used"] (defScope sNames) :=
  ⟨rfl, rfl, rfl, by decide +kernel, rfl, by decide +kernel, by decide +kernel⟩
theorem d_names (F : Df K mg "_law_names" sNames ["_law_rng_here", "_law_many", "_law_used"]) (T : Txt mg) (DN : Dn P w K mg base CX0 2 "_law_name" ["_law_rng_here", "_law_used"] spName) :
    Dn P w K mg base CX0 3 "_law_names" ["_law_rng_here", "_law_many", "_law_used"] spNames := by
  refine F.ok scNs (fun vs H Q E h => ?_) (fun f cdv A outer s H vs Q E hr h => ?_)
  · obtain ⟨r, l, us, m, rfl, _⟩ := h
    rfl
  · obtain ⟨r, l, us, m, rfl, R, hl, lu, m0, m1, q⟩ := h
    have nl : l ≠ r := R.ne hl (by intro a b z; cases us with | nil => cases z | cons u t => cases z)
    refine ⟨_, (pss_cons (ps_set (i := 3) scNs.nd rfl (Or.inl rfl) (pe_lst pa_nil))
      (pss_cons (ps_for PassesOwn.never rfl (pi_range1 (by rfl) T.range (pa_cons (pv 1) pa_nil)) (pg_name (i := 4) scNs.nd rfl (Or.inl rfl)) (pss_one (ps_expr (pe_bl PySem.F.plainAttrs_list PySem.F.slot_list_append PySem.F.type_list_append mt_append (pv 3) (pa_cons (pe_cD DN hr pass0 (pa_cons (pv 0) (pa_cons (pe_op op_cat (pv 2) (pv 3)) pa_nil))) pa_nil)))))
      (pss_one (ps_ret (pv 3))))), ?_⟩
    refine ⟨Nat.zero_le _, fun p hp => ?_⟩
    have nrp : r ≠ p := R.free hp
    refine ⟨_, rfl, _, rfl, by omega, by omega, ?_⟩
    refine for_range (lo := 0) (n := m.toNat) (fun i σ J => Ext r H J ∧ Rng J r ∧ (∃ x, σ = [some (.ref r), some (.int m), some (.ref l), some (.ref p), x]) ∧ ∃ zs : List Str, J p = some (.lst (zs.map V.str)) ∧ zs.length = i ∧ zs.Nodup ∧ ∀ z ∈ zs, NameOk z ∧ z ∉ us)
      ⟨Ext.new hp, R.new hp, ⟨_, rfl⟩, [], upd_same, rfl, List.nodup_nil, fun _ z => by cases z⟩ ?_ ?_
    · rintro i σ J hi ⟨EJ, RJ, ⟨x, rfl⟩, zs, hJ, lz, nz, okz⟩
      have hlJ := EJ _ _ nl hl
      refine ⟨_, rfl, ⟨p, rfl, .inl ⟨rfl, _, hJ⟩⟩, _, rfl, _, rfl, _, rfl, l, p, _, _, rfl, rfl, hlJ, hJ, ?_, fun p2 hp2 => ?_⟩
      · simp only [List.length_map]
        rw [sizeLine_eq]
        omega
      have nr2 : r ≠ p2 := RJ.free hp2
      refine ⟨r, p2, us ++ zs, rfl, RJ.new hp2, by rw [upd_same, List.map_append], by simp; omega, fun z J2 E2 R2 hz nzm => ?_⟩
      have hJ2 : J2 p = some (.lst (zs.map V.str)) := E2 _ _ nrp.symm (by rw [upd_ne (ne_of_none hJ hp2)]; exact hJ)
      have nz2 : z ∉ us ∧ z ∉ zs := by simpa using nzm
      refine ⟨p, _, _, rfl, rfl, hJ2, ?_, ?_, R2.put nrp.symm, ⟨_, rfl⟩, zs ++ [z], ?_, by simp [lz], ?_, ?_⟩
      · rw [List.length_map, lz, sizeLine_eq]
        omega
      · exact ext_put ((EJ.trans (Ext.new hp2)).trans E2) hp
      · rw [upd_same, List.map_append]
        rfl
      · rw [List.nodup_append]
        exact ⟨nz, by simp, fun a ha b hb e => by rw [List.mem_singleton.mp hb] at e; exact nz2.2 (e ▸ ha)⟩
      · intro y hy
        rcases List.mem_append.mp hy with hy | hy
        · exact okz y hy
        · rw [List.mem_singleton.mp hy]
          exact ⟨hz, nz2.1⟩
    · rintro σ J ⟨EJ, RJ, ⟨x, rfl⟩, zs, hJ, lz, nz, okz⟩
      exact ⟨_, rfl, q p zs J EJ RJ hp nrp.symm hJ (by omega) nz okz⟩
end
end N23
set_option maxHeartbeats 1000000
namespace N23
open PySem PySem.Spec PyProof.Rows L2 G
/-- the constants that the top leaves -/
structure Cst (mg : Str → Option Value) : Prop where
  le : ∃ t, mg "LETTERS" = some (.str LET t)
  ml : ∃ t, mg "MOST_LETTERS" = some (.int 8 t)
  mm : ∃ t, mg "MOST_MODULES" = some (.int 12 t)
  mv : ∃ t, mg "MOST_VERSIONS" = some (.int 16 t)
  mu : ∃ t, mg "MOST_USES" = some (.int 40 t)
abbrev Win := Int × Option Int
def hiD : Option Int → PyData
  | none => .none
  | some h => .int h
def hiV : Option Int → V
  | none => .non
  | some h => .int h
def winD (w : Win) : PyData := .tuple [.int w.1, hiD w.2]
def WinOk (w : Win) : Prop := 0 ≤ w.1 ∧ ∀ h, w.2 = some h → w.1 ≤ h
/-- a window of the heap -/
theorem win_at {H : Hp} {v : V} {w : Win} (h : Da H v (winD w)) : ∃ t, v = .ref t ∧ H t = some (.tup [.int w.1, hiV w.2]) := by
  obtain ⟨lo, hi⟩ := w
  cases h with
  | @tup a xs ds h t =>
    match xs, t with
    | [x, y], .cons hx (.cons hy .nil) =>
      cases hx
      refine ⟨a, rfl, ?_⟩
      cases hi with
      | none => cases hy; exact h
      | some k => cases hy; exact h
theorem win_of {H : Hp} {t : Addr} {w : Win} (h : H t = some (.tup [.int w.1, hiV w.2])) : Da H (.ref t) (winD w) := by
  obtain ⟨lo, hi⟩ := w
  cases hi with
  | none => exact .tup h (.cons (.int lo) (.cons .non .nil))
  | some k => exact .tup h (.cons (.int lo) (.cons (.int k) .nil))
theorem win_imm (w : Win) : imm (winD w) = true := by
  obtain ⟨lo, hi⟩ := w
  cases hi <;> rfl
def reachB (hi : Option Int) (n : Int) : Bool := match hi with
  | none => true
  | some h => decide (h ≥ n)
def risesB (a b : Win) : Bool := if b.1 < a.1 then false else match a.2 with
  | none => b.2.isNone
  | some h => reachB b.2 h
def spIsName : Sp := fun vs H Q _ => ∃ z : Str, vs = [.str z] ∧ NameOk z ∧ ∀ H', Same H H' → Q (.bl true) H'
def spIsVer : Sp := fun vs H Q _ => ∃ n : Int, vs = [.int n] ∧ 0 ≤ n ∧ Q (.bl true) H
def spIsWin : Sp := fun vs H Q _ => ∃ (v : V) (w : Win), vs = [v] ∧ Da H v (winD w) ∧ WinOk w ∧ Q (.bl true) H
def spReqWin : Sp := fun vs H Q _ => ∃ (v : V) (w : Win), vs = [v] ∧ Da H v (winD w) ∧ WinOk w ∧ Q .non H
def spReqWins : Sp := fun vs H Q _ => ∃ (l : Addr) (xs : List V) (ws : List Win), vs = [.ref l] ∧ H l = some (.lst xs) ∧ DaAll H xs (ws.map winD) ∧ (∀ w ∈ ws, WinOk w) ∧ ws.length ≤ 100 ∧ ∀ H', Same H H' → Q .non H'
def spReach : Sp := fun vs H Q _ => ∃ (hi : Option Int) (n : Int), vs = [hiV hi, .int n] ∧ Q (.bl (reachB hi n)) H
def spRises : Sp := fun vs H Q _ => ∃ (v u : V) (a b : Win), vs = [v, u] ∧ Da H v (winD a) ∧ Da H u (winD b) ∧ WinOk a ∧ WinOk b ∧ Q (.bl (risesB a b)) H
def spCanUse : Sp := fun vs H Q _ => ∃ (z : Str) (a : Addr) (l : List Str), vs = [.str z, .ref a] ∧ Zt H a (l.map V.str) ∧ (∀ y ∈ l, NameOk y) ∧ z ∉ l ∧ l.Nodup ∧ l.length ≤ 100 ∧ ∀ H', Same H H' → Q (.bl true) H'
section
variable {P : Program} {w : World} {K : PySem.W.Frag} {mg : Str → Option Value} {base : Heap}
theorem scN : FnScope ["value", "letter"] ["value"] (defScope sIsName) :=
  ⟨rfl, rfl, rfl, by decide +kernel, rfl, by decide +kernel, by decide +kernel⟩
theorem d_isname (F : Df K mg "is_name" sIsName ["value"]) (T : Txt mg) (C : Cst mg) : Dn P w K mg base CX0 1 "is_name" ["value"] spIsName := by
  obtain ⟨t1, gL⟩ := C.le
  obtain ⟨t2, gM⟩ := C.ml
  refine F.ok scN (fun vs H Q E h => ?_) (fun f cdv A outer s H vs Q E hr h => ?_)
  · obtain ⟨z, rfl, _⟩ := h
    rfl
  · obtain ⟨z, rfl, hz, q⟩ := h
    refine ⟨_, (pss_cons (ps_if (PW.pt (pw_or (pt_not (pt_val (pe_callB call_isi (by rfl) T.isinstance (by decide +kernel) (pa_cons (pv 0) (pa_cons (pe_bltn (v := .ty "str") (by rfl) T.str (by decide +kernel) rfl) pa_nil))))) (pw_or (pt_cmpR op_lt (pe_callB call_len_str (by rfl) T.len PySem.boot_len (pa_cons (pv 0) pa_nil)) pe_int (nomark _)) (pw_or1 (pt_cmpR op_gt (pe_callB call_len_str (by rfl) T.len PySem.boot_len (pa_cons (pv 0) pa_nil)) (pe_glob (v := .int 8) rfl gM ⟨_, rfl⟩) (nomark _)))))) (pss_one (ps_ret pe_bl)) pss_nil)
      (pss_one (ps_ret (pe_callB (cr_all rfl) (by rfl) T.all (by decide +kernel) (pa_cons (pe_lc (own := [("letter", 1)]) (g := (gName 1)) (tt := tYes) rfl scN.nd (pi_str (pv 0)) (blkOk_by (own := [("letter", 1)]) (N := ["value", "letter"]) (sc := defScope sIsName) (by decide +kernel)) (fun _ _ _ _ _ => (pg_name (i := 1) scN.nd rfl (Or.inl rfl))) (fun _ _ _ _ _ => pts_nil) (fun _ _ _ _ _ => (pe_cmpR op_in_sign (pv 1) (pe_glob (v := .str LET) rfl gL ⟨_, rfl⟩) (by rfl)))) pa_nil))))), ?_⟩
    have zl : z.length ≤ sizeLine := Nat.le_trans hz.2.1 (by decide)
    have z1 := hz.1
    have z8 := hz.2.1
    refine ⟨_, rfl, _, _, _, _, _, rfl, .ty _, .base (.str z), kit_ty (a := "str") (b := "str") (r := true) (by decide +kernel), _, rfl, iteF ?_⟩
    refine ⟨_, rfl, _, rfl, zl, _, _, rfl, rfl, _, rfl, ?_⟩
    refine ite2 (fun h1 => by simp at h1; omega) (fun _ => ?_)
    refine ⟨_, rfl, _, rfl, zl, _, _, rfl, rfl, _, rfl, ?_⟩
    refine ite2 (fun h1 => by simp at h1; omega) (fun _ => ?_)
    refine ⟨_, rfl, z, rfl, fun D hD => lc_it walk_str
      (fun i H' => Same H H' ∧ H' D = some (.lst (List.replicate i (V.bl true))))
      ⟨new_same hD, upd_same⟩ (fun _ _ _ _ => trivial) ?_ ?_⟩
    · rintro i x H1 H2 hi ⟨s1, l1⟩ ⟨rfl, c, hc, rfl⟩
      refine ⟨rfl, yesT ?_⟩
      have mc : c ∈ LET.cps.toList := hz.2.2 c (by
        have : z.cps.toList[i]? = some c := by simpa using hc
        exact List.mem_of_getElem? this)
      refine ⟨_, rfl, c, _, rfl, rfl, _, l1, ?_, same_put s1 hD, ?_⟩
      · rw [List.length_replicate, sizeLine_eq]
        have : z.cps.size ≤ 8 := z8
        omega
      · rw [upd_same, decide_eq_true mc]
        exact congrArg (fun l => some (HO.lst l)) (List.replicate_succ' (n := i) (a := V.bl true)).symm
    · rintro H1 ⟨s1, l1⟩
      refine ⟨D, List.replicate z.cps.size true, rfl, SqL.of (by rw [l1, List.map_replicate]), ?_⟩
      have e : (List.replicate z.cps.size true).all id = true := by simp
      rw [e]
      exact q H1 s1
theorem scV : FnScope ["value"] ["value"] (defScope sIsVer) :=
  ⟨rfl, rfl, rfl, by decide +kernel, rfl, by decide +kernel, by decide +kernel⟩
theorem d_isver (F : Df K mg "is_version" sIsVer ["value"]) (T : Txt mg) : Dn P w K mg base CX0 1 "is_version" ["value"] spIsVer := by
  refine F.ok scV (fun vs H Q E h => ?_) (fun f cdv A outer s H vs Q E hr h => ?_)
  · obtain ⟨n, rfl, _⟩ := h
    rfl
  · obtain ⟨n, rfl, n0, q⟩ := h
    refine ⟨_, (pss_one (ps_ret (pe_and (pe_callB call_isi (by rfl) T.isinstance (by decide +kernel) (pa_cons (pv 0) (pa_cons (pe_bltn (v := .ty "int") (by rfl) T.int (by decide +kernel) rfl) pa_nil))) (pe_and (pe_not (pe_callB call_isi (by rfl) T.isinstance (by decide +kernel) (pa_cons (pv 0) (pa_cons (pe_bltn (v := .ty "bool") (by rfl) T.bool (by decide +kernel) rfl) pa_nil)))) (pe_one (pe_cmpR op_ge (pv 0) pe_int (nomark _))))))), ?_⟩
    refine ⟨_, rfl, _, _, _, _, _, rfl, .ty _, .base (.int n), kit_ty (a := "int") (b := "int") (r := true) (by decide +kernel), _, rfl, iteT ?_⟩
    refine ⟨_, rfl, _, _, _, _, _, rfl, .ty _, .base (.int n), kit_ty (a := "int") (b := "bool") (r := false) (by decide +kernel), _, rfl, _, rfl, iteT ⟨_, rfl, _, _, rfl, rfl, ?_⟩⟩
    show Q (.bl (decide ((0 : Int) ≤ n))) H
    rw [decide_eq_true n0]
    exact q
theorem scW : FnScope ["value", "low", "high"] ["value"] (defScope sIsWin) :=
  ⟨rfl, rfl, rfl, by decide +kernel, rfl, by decide +kernel, by decide +kernel⟩
theorem d_iswin (F : Df K mg "is_window" sIsWin ["value"]) (T : Txt mg) (DV : Dn P w K mg base CX0 1 "is_version" ["value"] spIsVer) : Dn P w K mg base CX0 2 "is_window" ["value"] spIsWin := by
  refine F.ok scW (fun vs H Q E h => ?_) (fun f cdv A outer s H vs Q E hr h => ?_)
  · obtain ⟨v, x, rfl, _⟩ := h
    rfl
  · obtain ⟨v, ⟨lo, hi⟩, rfl, hd, ⟨l0, lh⟩, q⟩ := h
    obtain ⟨t, rfl, ht⟩ := win_at hd
    refine ⟨_, (pss_cons (ps_if (PW.pt (pw_or (pt_not (pt_val (pe_callB call_isi (by rfl) T.isinstance (by decide +kernel) (pa_cons (pv 0) (pa_cons (pe_bltn (v := .ty "tuple") (by rfl) T.tuple (by decide +kernel) rfl) pa_nil))))) (pw_or1 (pt_cmpR op_ne (pe_callB lenT (by rfl) T.len PySem.boot_len (pa_cons (pv 0) pa_nil)) pe_int (nomark _))))) (pss_one (ps_ret pe_bl)) pss_nil)
      (pss_cons (ps_asg (pv 0) (pg_tup rfl (pgs_cons (pg_name (i := 1) scW.nd rfl (Or.inl rfl)) (pgs_cons (pg_name (i := 2) scW.nd rfl (Or.inl rfl)) pgs_nil))))
      (pss_cons (ps_if (pt_not (pt_val (pe_cD DV hr pass0 (pa_cons (pv 1) pa_nil)))) (pss_one (ps_ret pe_bl)) pss_nil)
      (pss_one (ps_ret (pe_or (pe_cmp (pc_isN (pv 2))) (pe_one (pe_and (pe_cD DV hr pass0 (pa_cons (pv 2) pa_nil)) (pe_one (pe_cmpR op_ge (pv 2) (pv 1) (nomark _))))))))))), ?_⟩
    refine ⟨_, rfl, _, _, _, _, _, rfl, .ty _, .base (.tup ht), kit_ty (a := "tuple") (b := "tuple") (r := true) (by decide +kernel), _, rfl, iteF ?_⟩
    refine ⟨_, rfl, t, _, rfl, .inl ht, rfl, _, rfl, iteF ?_⟩
    refine ⟨_, rfl, t, _, rfl, SqT.of ht, rfl, _, _, rfl, _, _, rfl, rfl, ?_⟩
    refine ⟨_, rfl, lo, rfl, l0, _, rfl, iteF ?_⟩
    cases hi with
    | none => exact ⟨_, rfl, _, rfl, iteT q⟩
    | some k =>
      have hk := lh k rfl
      refine ⟨_, rfl, _, rfl, iteF ?_⟩
      refine ⟨_, rfl, k, rfl, (by show (0 : Int) ≤ k; exact Int.le_trans l0 hk), _, rfl, iteT ⟨_, rfl, _, rfl, _, _, rfl, rfl, ?_⟩⟩
      show Q (.bl (decide (lo ≤ k))) H
      rw [decide_eq_true hk]
      exact q
theorem scRW : FnScope ["value"] ["value"] (defScope sReqWin) :=
  ⟨rfl, rfl, rfl, by decide +kernel, rfl, by decide +kernel, by decide +kernel⟩
theorem d_reqwin (F : Df K mg "require_window" sReqWin ["value"]) (DW : Dn P w K mg base CX0 2 "is_window" ["value"] spIsWin) : Dn P w K mg base CX0 3 "require_window" ["value"] spReqWin := by
  refine F.ok scRW (fun vs H Q E h => ?_) (fun f cdv A outer s H vs Q E hr h => ?_)
  · obtain ⟨v, x, rfl, _⟩ := h
    rfl
  · obtain ⟨v, x, rfl, hd, ok, q⟩ := h
    refine ⟨_, (pss_one (ps_if (pt_not (pt_val (pe_cD DW hr pass0 (pa_cons (pv 0) pa_nil)))) (pss_one ps_never) pss_nil)), ?_⟩
    exact ⟨_, rfl, v, x, rfl, hd, ok, _, rfl, iteF q⟩
theorem scRS : FnScope ["value", "position", "item"] ["value"] (defScope sReqWins) :=
  ⟨rfl, rfl, rfl, by decide +kernel, rfl, by decide +kernel, by decide +kernel⟩
theorem d_reqwins (F : Df K mg "require_windows" sReqWins ["value"]) (T : Txt mg) (DW : Dn P w K mg base CX0 2 "is_window" ["value"] spIsWin) : Dn P w K mg base CX0 3 "require_windows" ["value"] spReqWins := by
  refine F.ok scRS (fun vs H Q E h => ?_) (fun f cdv A outer s H vs Q E hr h => ?_)
  · obtain ⟨l, xs, ws, rfl, _⟩ := h
    rfl
  · obtain ⟨l, xs, ws, rfl, hl, da, ok, lw, q⟩ := h
    refine ⟨_, (pss_cons (ps_if (pt_not (pt_val (pe_callB call_isi (by rfl) T.isinstance (by decide +kernel) (pa_cons (pv 0) (pa_cons (pe_bltn (v := .ty "list") (by rfl) T.list (by decide +kernel) rfl) pa_nil))))) (pss_one ps_never) pss_nil)
      (pss_one (ps_for PassesOwn.never rfl (pi_enum (by rfl) T.enumerate (pa_cons (pv 0) pa_nil)) (pg_tup rfl (pgs_cons (pg_name (i := 1) scRS.nd rfl (Or.inl rfl)) (pgs_cons (pg_name (i := 2) scRS.nd rfl (Or.inl rfl)) pgs_nil))) (pss_one (ps_if (pt_not (pt_val (pe_cD DW hr pass0 (pa_cons (pv 2) pa_nil)))) (pss_one ps_never) pss_nil))))), ?_⟩
    refine ⟨_, rfl, _, _, _, _, _, rfl, .ty _, .base (.lst hl), kit_ty (a := "list") (b := "list") (r := true) (by decide +kernel), _, rfl, iteF ?_⟩
    refine ⟨_, rfl, l, xs, rfl, SqL.of hl, ?_⟩
    refine for_it walk_enum (fun i σ J => Same H J ∧ ∃ x y, σ = [some (.ref l), x, y]) ⟨.refl H, _, _, rfl⟩ (fun i σ J _ h => SqL.of (h.1 _ _ hl)) ?_ ?_
    · rintro i v σ J J2 hi ⟨sJ, x, y, rfl⟩ ⟨t, a, b, rfl, ht, rfl, ha, hb⟩
      obtain ⟨d, hd, dd⟩ := da.get' hb
      rw [List.getElem?_map] at hd
      cases hw : ws[i]? with
      | none => rw [hw] at hd; cases hd
      | some x0 =>
        rw [hw] at hd
        cases hd
        have d2 : Da (upd J t (.tup [a, b])) b (winD x0) := (dd.mono sJ).mono (new_same ht)
        refine ⟨t, _, rfl, SqT.of upd_same, rfl, _, _, rfl, _, _, rfl, rfl, ?_⟩
        exact ⟨_, rfl, b, x0, rfl, d2, ok x0 (List.mem_of_getElem? hw), _, rfl, iteF ⟨same_new sJ ht, _, _, rfl⟩⟩
    · rintro σ J ⟨sJ, _⟩
      exact q J sJ
theorem scRe : FnScope ["high", "version"] ["high", "version"] (defScope sReach) :=
  ⟨rfl, rfl, rfl, by decide +kernel, rfl, by decide +kernel, by decide +kernel⟩
theorem d_reach (F : Df K mg "reaches" sReach ["high", "version"]) : Dn P w K mg base CX0 1 "reaches" ["high", "version"] spReach := by
  refine F.ok scRe (fun vs H Q E h => ?_) (fun f cdv A outer s H vs Q E hr h => ?_)
  · obtain ⟨hi, n, rfl, _⟩ := h
    rfl
  · obtain ⟨hi, n, rfl, q⟩ := h
    refine ⟨_, (pss_one (ps_ret (pe_or (pe_cmp (pc_isN (pv 0))) (pe_one (pe_cmpR op_ge (pv 0) (pv 1) (nomark _)))))), ?_⟩
    cases hi with
    | none => exact ⟨_, rfl, _, rfl, iteT q⟩
    | some k => exact ⟨_, rfl, _, rfl, iteF ⟨_, rfl, _, rfl, _, _, rfl, rfl, q⟩⟩
theorem scRi : FnScope ["first", "second", "first_low", "first_high", "second_low", "second_high"] ["first", "second"] (defScope sRises) :=
  ⟨rfl, rfl, rfl, by decide +kernel, rfl, by decide +kernel, by decide +kernel⟩
theorem d_rises (F : Df K mg "rises" sRises ["first", "second"]) (DW : Dn P w K mg base CX0 3 "require_window" ["value"] spReqWin) (DR : Dn P w K mg base CX0 1 "reaches" ["high", "version"] spReach) :
    Dn P w K mg base CX0 4 "rises" ["first", "second"] spRises := by
  refine F.ok scRi (fun vs H Q E h => ?_) (fun f cdv A outer s H vs Q E hr h => ?_)
  · obtain ⟨v, u, a, b, rfl, _⟩ := h
    rfl
  · obtain ⟨v, u, ⟨al, ah⟩, ⟨bl, bh⟩, rfl, da, db, oa, ob, q⟩ := h
    obtain ⟨t1, rfl, h1⟩ := win_at da
    obtain ⟨t2, rfl, h2⟩ := win_at db
    refine ⟨_, (pss_cons (ps_expr (pe_cD DW hr pass0 (pa_cons (pv 0) pa_nil)))
      (pss_cons (ps_expr (pe_cD DW hr pass0 (pa_cons (pv 1) pa_nil)))
      (pss_cons (ps_asg (pv 0) (pg_tup rfl (pgs_cons (pg_name (i := 2) scRi.nd rfl (Or.inl rfl)) (pgs_cons (pg_name (i := 3) scRi.nd rfl (Or.inl rfl)) pgs_nil))))
      (pss_cons (ps_asg (pv 1) (pg_tup rfl (pgs_cons (pg_name (i := 4) scRi.nd rfl (Or.inl rfl)) (pgs_cons (pg_name (i := 5) scRi.nd rfl (Or.inl rfl)) pgs_nil))))
      (pss_cons (ps_if (pt_cmpR op_lt (pv 4) (pv 2) (nomark _)) (pss_one (ps_ret pe_bl)) pss_nil)
      (pss_cons (ps_if (pt_cmp (pc_isN (pv 3))) (pss_one (ps_ret (pe_cmp (pc_isN (pv 5))))) pss_nil)
      (pss_one (ps_ret (pe_cD DR hr pass0 (pa_cons (pv 5) (pa_cons (pv 3) pa_nil))))))))))), ?_⟩
    refine ⟨_, rfl, _, _, rfl, da, oa, ?_⟩
    refine ⟨_, rfl, _, _, rfl, db, ob, ?_⟩
    refine ⟨_, rfl, t1, _, rfl, SqT.of h1, rfl, _, _, rfl, _, _, rfl, rfl, ?_⟩
    refine ⟨_, rfl, t2, _, rfl, SqT.of h2, rfl, _, _, rfl, _, _, rfl, rfl, ?_⟩
    refine ⟨_, rfl, _, rfl, _, _, rfl, rfl, _, rfl, ?_⟩
    simp only [risesB] at q
    refine ite2 (fun hlt => ?_) (fun hlt => ?_)
    · rw [if_pos (of_decide_eq_true hlt)] at q
      exact q
    · rw [if_neg (by simpa using hlt)] at q
      cases ah with
      | none =>
        refine ⟨_, rfl, _, rfl, iteT ?_⟩
        refine ⟨_, rfl, ?_⟩
        cases bh with
        | none => exact q
        | some k => exact q
      | some k =>
        refine ⟨_, rfl, _, rfl, iteF ?_⟩
        exact ⟨_, rfl, _, rfl, bh, k, rfl, q⟩
theorem scCU : FnScope ["module", "value", "name"] ["module", "value"] (defScope sCanUse) :=
  ⟨rfl, rfl, rfl, by decide +kernel, rfl, by decide +kernel, by decide +kernel⟩
theorem d_canuse (F : Df K mg "can_use" sCanUse ["module", "value"]) (T : Txt mg) (DN : Dn P w K mg base CX0 1 "is_name" ["value"] spIsName) : Dn P w K mg base CX0 2 "can_use" ["module", "value"] spCanUse := by
  refine F.ok scCU (fun vs H Q E h => ?_) (fun f cdv A outer s H vs Q E hr h => ?_)
  · obtain ⟨z, a, l, rfl, _⟩ := h
    rfl
  · obtain ⟨z, a, l, rfl, Z, okl, zl, nl, ll, q⟩ := h
    obtain ⟨ob, nob, ha⟩ := id Z
    refine ⟨_, (pss_cons (ps_if (PW.pt (pw_or (pt_not (pt_val (pe_callB call_isi (by rfl) T.isinstance (by decide +kernel) (pa_cons (pv 1) (pa_cons (pe_bltn (v := .ty "tuple") (by rfl) T.tuple (by decide +kernel) rfl) pa_nil))))) (pw_or1 (pt_not (pt_val (pe_callB (cr_all rfl) (by rfl) T.all (by decide +kernel) (pa_cons (pe_lc (own := [("name", 2)]) (g := (gName 2)) (tt := tYes) rfl scCU.nd (pi_tup (pv 1)) (blkOk_by (own := [("name", 2)]) (N := ["module", "value", "name"]) (sc := defScope sCanUse) (by decide +kernel)) (fun _ _ _ _ _ => (pg_name (i := 2) scCU.nd rfl (Or.inl rfl))) (fun _ _ _ _ _ => pts_nil) (fun _ _ _ _ _ => (pe_cD DN hr pass0 (pa_cons (pv 2) pa_nil)))) pa_nil))))))) (pss_one (ps_ret pe_bl)) pss_nil)
      (pss_one (ps_ret (pe_and (pe_cmpR notInT (pv 0) (pv 1) (by rfl)) (pe_one (pe_cmpR op_eq (pe_lenSetT (by rfl) T.len (by rfl) T.set (pv 1)) (pe_callB lenT (by rfl) T.len PySem.boot_len (pa_cons (pv 1) pa_nil)) (nomark _))))))), ?_⟩
    refine ⟨_, rfl, _, _, _, _, _, rfl, .ty _, .fTuple ha, kit_ty (a := "tuple") (b := "tuple") (r := true) (by decide +kernel), _, rfl, iteF ?_⟩
    refine ⟨_, rfl, a, rfl, ⟨_, .inl Z.rd⟩, fun D hD => ?_⟩
    refine lc_tup (K := K) (a := a) (xs := l.map V.str) (fun i J => Same H J ∧ J D = some (.lst (List.replicate i (V.bl true)))) ⟨new_same hD, upd_same⟩ (fun i J _ h => .inl (Z.same h.1).rd) ?_ ?_
    · rintro i x J hx ⟨sJ, hJ⟩
      rw [List.getElem?_map] at hx
      cases hy : l[i]? with
      | none => rw [hy] at hx; cases hx
      | some y =>
        rw [hy] at hx
        cases hx
        refine ⟨rfl, yesT ⟨_, rfl, y, rfl, okl y (List.mem_of_getElem? hy), fun J2 s2 => ?_⟩⟩
        have iy := (List.getElem?_eq_some_iff.mp hy).1
        refine ⟨_, s2 _ _ hJ, ?_, same_put (same_trans sJ s2) hD, ?_⟩
        · rw [List.length_replicate, sizeLine_eq]
          omega
        · rw [upd_same]
          exact congrArg (fun l => some (HO.lst l)) (List.replicate_succ' (n := i) (a := V.bl true)).symm
    · rintro J ⟨sJ, hJ⟩
      refine ⟨D, List.replicate (l.map V.str).length true, rfl, SqL.of (by rw [hJ, List.map_replicate]), ?_⟩
      have e : (List.replicate (l.map V.str).length true).all id = true := by simp
      rw [e]
      refine ⟨_, rfl, iteF ?_⟩
      have ZJ := Z.same sJ
      refine ⟨_, rfl, _, rfl, a, _, rfl, ZJ.rd, rfl, strs_flat l, ?_⟩
      rw [if_pos rfl, inV_str, decide_eq_false zl]
      refine ⟨_, rfl, iteT ?_⟩
      refine ⟨_, rfl, a, l, rfl, .inl ZJ.rd, by omega, _, rfl, a, _, rfl, ZJ.rd, rfl, ?_⟩
      rw [show decide (V.int (nd l : Nat) = V.int ((l.map V.str).length : Nat)) = true from decide_eq_true (by rw [List.length_map, nd_nodup.mpr nl])]
      exact q J sJ
end
end N23
set_option maxHeartbeats 1000000
namespace N23
open PySem PySem.Spec PyProof.Rows L2 G
/-- a dict's pairs: names and values -/
def kz (ns : List Str) (vs : List V) : List (Key × V) := (ns.map Sum.inr).zip vs
theorem kz_len {ns : List Str} {vs : List V} (h : vs.length = ns.length) : (kz ns vs).length = ns.length := by simp [kz, h]
theorem kz_keys {ns : List Str} {vs : List V} (h : vs.length = ns.length) : (kz ns vs).map (·.1) = ns.map Sum.inr := List.map_fst_zip (by simp [h])
theorem kz_vals {ns : List Str} {vs : List V} (h : vs.length = ns.length) : (kz ns vs).map (·.2) = vs := List.map_snd_zip (by simp [h])
theorem kz_nodup {ns : List Str} {vs : List V} (h : vs.length = ns.length) (n : ns.Nodup) : ((kz ns vs).map (·.1)).Nodup := by
  rw [kz_keys h, List.nodup_iff_pairwise_ne, List.pairwise_map]
  exact (List.nodup_iff_pairwise_ne.mp n).imp fun ne e => ne (Sum.inr.inj e)
theorem kz_get {ns : List Str} {vs : List V} {i : Nat} {z : Str} {v : V} (h1 : ns[i]? = some z) (h2 : vs[i]? = some v) : (kz ns vs)[i]? = some (Sum.inr z, v) := by
  unfold kz
  rw [List.getElem?_zip_eq_some]
  exact ⟨by rw [List.getElem?_map, h1]; rfl, h2⟩
theorem kz_at {ns : List Str} {vs : List V} {i : Nat} {k : Key} {v : V} (h : (kz ns vs)[i]? = some (k, v)) : ∃ z, ns[i]? = some z ∧ k = Sum.inr z ∧ vs[i]? = some v := by
  unfold kz at h
  rw [List.getElem?_zip_eq_some] at h
  obtain ⟨h1, h2⟩ := h
  rw [List.getElem?_map] at h1
  cases hz : ns[i]? with
  | none => rw [hz] at h1; cases h1
  | some z =>
    rw [hz] at h1
    exact ⟨z, rfl, (Option.some.inj h1).symm, h2⟩
theorem kz_val {ns : List Str} {vs : List V} {i : Nat} {z : Str} {v : V} (h : vs.length = ns.length) (n : ns.Nodup) (h1 : ns[i]? = some z) (h2 : vs[i]? = some v) : valV (kz ns vs) (Sum.inr z : Key) = some v :=
  valV_mem (kz_nodup h n) (Sum.inr z, v) (List.mem_of_getElem? (kz_get h1 h2))
theorem kz_none {ns : List Str} {vs : List V} {z : Str} (h : z ∉ ns) : valV (kz ns vs) (Sum.inr z : Key) = none := by
  unfold valV
  rw [List.find?_eq_none.mpr fun kv hm => ?_]
  · rfl
  · obtain ⟨i, hi⟩ := List.getElem?_of_mem hm
    obtain ⟨y, h1, h2, _⟩ := kz_at (k := kv.1) (v := kv.2) hi
    have ne : ¬ kv.1 = Sum.inr z := fun e => h (by rw [h2] at e; rw [← Sum.inr.inj e]; exact List.mem_of_getElem? h1)
    simpa using ne
/-- reading d[z] -/
theorem kz_dget {H : Hp} {d : Addr} {ns : List Str} {vs : List V} {i : Nat} {z : Str} {v : V} (r : Rd H d (.dK (kz ns vs))) (h : vs.length = ns.length) (n : ns.Nodup) (h1 : ns[i]? = some z) (h2 : vs[i]? = some v) : DGet H d (.str z) (some v) :=
  .inl ⟨_, Sum.inr z, r, rfl, (kz_val h n h1 h2).symm⟩
theorem kz_has {H : Hp} {d : Addr} {ns : List Str} {vs : List V} {z : Str} (r : Rd H d (.dK (kz ns vs))) (h : vs.length = ns.length) (n : ns.Nodup) : ∃ o, DGet H d (.str z) o ∧ o.isSome = decide (z ∈ ns) := by
  by_cases m : z ∈ ns
  · obtain ⟨i, hi⟩ := List.getElem?_of_mem m
    have li := (List.getElem?_eq_some_iff.mp hi).1
    have lv : i < vs.length := by omega
    exact ⟨_, kz_dget r h n hi (List.getElem?_eq_getElem lv), by rw [decide_eq_true m]; rfl⟩
  · exact ⟨none, .inl ⟨_, Sum.inr z, r, rfl, (kz_none m).symm⟩, by rw [decide_eq_false m]; rfl⟩
/-- a dict from names to tuples of names -/
structure UsesAt (H : Hp) (d : Addr) (ns : List Str) (ts : List Addr) (us : List (List Str)) : Prop where
  h : H d = some (.dK (kz ns (ts.map V.ref)))
  lt : ts.length = ns.length
  lu : us.length = ns.length
  z : ∀ (i : Nat) (t : Addr) (l : List Str), ts[i]? = some t → us[i]? = some l → Zt H t (l.map V.str)
structure UOk (ns : List Str) (us : List (List Str)) : Prop where
  lu : us.length = ns.length
  ne : 0 < ns.length
  le : ns.length ≤ 12
  nd : ns.Nodup
  nm : ∀ z ∈ ns, NameOk z
  ok : ∀ (i : Nat) (z : Str) (l : List Str), ns[i]? = some z → us[i]? = some l → z ∉ l ∧ l.Nodup ∧ ∀ y ∈ l, y ∈ ns
  su : (us.map List.length).sum ≤ 40
theorem UOk.len {ns : List Str} {us : List (List Str)} (U : UOk ns us) {i : Nat} {l : List Str} (h : us[i]? = some l) : l.length ≤ 12 := by
  have lt := (List.getElem?_eq_some_iff.mp h).1
  have lz : i < ns.length := by rw [← U.lu]; exact lt
  obtain ⟨_, n, m⟩ := U.ok i _ l (List.getElem?_eq_getElem lz) h
  exact Nat.le_trans (nodup_le n m) U.le
theorem UsesAt.ext {H H' : Hp} {d : Addr} {ns : List Str} {ts : List Addr} {us : List (List Str)} (U : UsesAt H d ns ts us) (s : Same H H') : UsesAt H' d ns ts us :=
  ⟨s _ _ U.h, U.lt, U.lu, fun i t l h1 h2 => (U.z i t l h1 h2).same s⟩
def spReqUses : Sp := fun vs H Q _ => ∃ (d : Addr) (ns : List Str) (ts : List Addr) (us : List (List Str)), vs = [.ref d] ∧ UsesAt H d ns ts us ∧ UOk ns us ∧ ∀ H', Same H H' → Q .non H'
/-- behind a lock: all is as before, and more -/
theorem unlock {H J : Hp} {d : Addr} {u : HO} (h : H d = some u) (e : G.Ext d H J) : Same H (upd J d u) := fun q o hq => by
  by_cases z : q = d
  · rw [z] at hq ⊢
    rw [h] at hq
    rw [upd_same]
    exact hq
  · rw [upd_ne z]
    exact e q o z hq
theorem zt_ext {H J : Hp} {d t : Addr} {xs : List V} {kvs : List (Key × V)} (z : Zt H t xs) (h : H d = some (.dK kvs)) (e : G.Ext d H J) : Zt J t xs := by
  obtain ⟨ob, n, ht⟩ := z
  exact ⟨ob, n, e _ _ (ne_of ht h (by intro z; cases z)) ht⟩
section
variable {P : Program} {w : World} {K : PySem.W.Frag} {mg : Str → Option Value} {base : Heap}
theorem scRU : FnScope ["uses", "module", "names", "name"] ["uses"] (defScope sReqUses) :=
  ⟨rfl, rfl, rfl, by decide +kernel, rfl, by decide +kernel, by decide +kernel⟩
theorem d_requses (F : Df K mg "require_uses" sReqUses ["uses"]) (T : Txt mg) (C : Cst mg) (DN : Dn P w K mg base CX0 1 "is_name" ["value"] spIsName) (DC : Dn P w K mg base CX0 2 "can_use" ["module", "value"] spCanUse) :
    Dn P w K mg base CX0 3 "require_uses" ["uses"] spReqUses := by
  obtain ⟨t1, gM⟩ := C.mm
  obtain ⟨t2, gU⟩ := C.mu
  refine F.ok scRU (fun vs H Q E h => ?_) (fun f cdv A outer s H vs Q E hr h => ?_)
  · obtain ⟨d, ns, ts, us, rfl, _⟩ := h
    rfl
  · obtain ⟨d, ns, ts, us, rfl, U, ok, q⟩ := h
    have hu := hu_of hr
    have lk : (ts.map V.ref).length = ns.length := by rw [List.length_map, U.lt]
    have ll := kz_len lk
    have le := ok.le
    have ne := ok.ne
    refine ⟨_, (pss_cons (ps_if (PW.pt (pw_or (pt_not (pt_val (pe_callB call_isi (by rfl) T.isinstance (by decide +kernel) (pa_cons (pv 0) (pa_cons (pe_bltn (v := .ty "dict") (by rfl) T.dict (by decide +kernel) rfl) pa_nil))))) (pw_or1 (pt_cmpR op_eq (pe_callB call_lenD (by rfl) T.len PySem.boot_len (pa_cons (pv 0) pa_nil)) pe_int (nomark _))))) (pss_one ps_never) pss_nil)
      (pss_cons (ps_if (pt_cmpR op_gt (pe_callB call_lenD (by rfl) T.len PySem.boot_len (pa_cons (pv 0) pa_nil)) (pe_glob (v := .int 12) rfl gM ⟨_, rfl⟩) (nomark _)) (pss_one ps_never) pss_nil)
      (pss_cons (ps_lock (ps_for PassesOwn.never rfl (pi_items (pv 0)) (pg_tup rfl (pgs_cons (pg_name (i := 1) scRU.nd rfl (Or.inl rfl)) (pgs_cons (pg_name (i := 2) scRU.nd rfl (Or.inl rfl)) pgs_nil))) (pss_cons (ps_if (pt_not (pt_val (pe_cD DN hr pass0 (pa_cons (pv 1) pa_nil)))) (pss_one ps_never) pss_nil)
      (pss_one (ps_if (pt_not (pt_val (pe_cD DC hr pass0 (pa_cons (pv 1) (pa_cons (pv 2) pa_nil))))) (pss_one ps_never) pss_nil)))))
      (pss_cons (ps_lock (ps_for PassesOwn.never rfl (pi_values (pv 0)) (pg_name (i := 2) scRU.nd rfl (Or.inl rfl)) (pss_one (ps_for PassesOwn.never rfl (pi_tup (pv 2)) (pg_name (i := 3) scRU.nd rfl (Or.inl rfl)) (pss_one (ps_if (pt_cmp (pc_dnotin hu (pv 3) (pv 0))) (pss_one ps_never) pss_nil))))))
      (pss_one (ps_if (pt_cmpR op_gt (pe_callB (cr_sum rfl) (by rfl) T.sum (by decide +kernel) (pa_cons (pe_lock (pe_lc (own := [("names", 2)]) (g := (gName 2)) (tt := tYes) rfl scRU.nd (pi_values (pv 0)) (blkOk_by (own := [("names", 2)]) (N := ["uses", "module", "names", "name"]) (sc := defScope sReqUses) (by decide +kernel)) (fun _ _ _ _ _ => (pg_name (i := 2) scRU.nd rfl (Or.inl rfl))) (fun _ _ _ _ _ => pts_nil) (fun _ _ _ _ _ => (pe_callB lenT (by rfl) T.len PySem.boot_len (pa_cons (pv 2) pa_nil))))) pa_nil)) (pe_glob (v := .int 40) rfl gU ⟨_, rfl⟩) (nomark _)) (pss_one ps_never) pss_nil)))))), ?_⟩
    refine ⟨_, rfl, _, _, _, _, _, rfl, .ty _, .base (.dK U.h), kit_ty (a := "dict") (b := "dict") (r := true) (by decide +kernel), _, rfl, iteF ?_⟩
    refine ⟨_, rfl, d, _, rfl, U.h, rfl, _, rfl, ?_⟩
    rw [ll, show decide (V.int (ns.length : Nat) = V.int 0) = false from decide_eq_false (fun e => by have := V.int.inj e; omega)]
    refine iteF ?_
    refine ⟨_, rfl, d, _, rfl, U.h, _, _, rfl, rfl, _, rfl, ?_⟩
    rw [ll]
    refine ite2 (fun h1 => by have := of_decide_eq_true h1; omega) (fun _ => ?_)
    -- the entries
    refine ⟨d, _, U.h, trivial, fun od => ?_⟩
    refine ⟨_, rfl, d, od, _, rfl, upd_same, ?_⟩
    refine for_it walk_items (fun i σ J => J d = some (.frz od (.dK (kz ns (ts.map V.ref)))) ∧ G.Ext d H J ∧ ∃ x y, σ = [some (.ref d), x, y, none]) ⟨upd_same, Ext.at, _, _, rfl⟩ (fun i σ J _ h => h.1) ?_ ?_
    · rintro i v σ J J2 hi ⟨hJ, eJ, x, y, rfl⟩ ⟨t0, a, b, rfl, ht, rfl, ha, hb⟩
      dsimp only at ha hb
      cases hk : (kz ns (ts.map V.ref))[i]? with
      | none => rw [hk] at ha; cases ha
      | some kv =>
        rw [hk] at ha hb
        obtain ⟨k, b2⟩ := kv
        obtain ⟨z, h1, rfl, h2⟩ := kz_at hk
        cases ha
        cases hb
        rw [List.getElem?_map] at h2
        cases h3 : ts[i]? with
        | none => rw [h3] at h2; cases h2
        | some t =>
          rw [h3] at h2
          cases h2
          have iu : i < us.length := by rw [U.lu]; exact (List.getElem?_eq_some_iff.mp h1).1
          have h4 : us[i]? = some us[i] := List.getElem?_eq_getElem iu
          obtain ⟨o1, o2, o3⟩ := ok.ok i z _ h1 h4
          have Z := U.z i t _ h3 h4
          have nd0 : d ≠ t0 := ne_of_none hJ ht
          refine ⟨t0, _, rfl, SqT.of upd_same, rfl, _, _, rfl, _, _, rfl, rfl, ?_⟩
          refine ⟨_, rfl, z, rfl, ok.nm z (List.mem_of_getElem? h1), fun J3 s3 => ⟨_, rfl, iteF ?_⟩⟩
          have eJ3 : G.Ext d H J3 := eJ.trans ((Ext.new ht).trans (Ext.of s3))
          refine ⟨_, rfl, _, rfl, z, t, us[i], rfl, zt_ext Z U.h eJ3, fun y hy => ok.nm y (o3 y hy), o1, o2, Nat.le_trans (ok.len h4) (by decide), fun J4 s4 => ⟨_, rfl, iteF ?_⟩⟩
          refine ⟨s4 _ _ (s3 _ _ (by rw [upd_ne nd0]; exact hJ)), eJ3.trans (Ext.of s4), _, _, rfl⟩
    · rintro σ J ⟨hJ, eJ, x, y, rfl⟩
      refine ⟨hJ, ?_⟩
      have s1 := unlock U.h eJ
      have U1 := U.ext s1
      generalize upd J d (.dK (kz ns (ts.map V.ref))) = H1 at s1 U1
      -- the values
      refine ⟨d, _, U1.h, trivial, fun od2 => ?_⟩
      refine ⟨_, rfl, d, od2, _, rfl, upd_same, ?_⟩
      refine for_it walk_values (fun i σ J => J d = some (.frz od2 (.dK (kz ns (ts.map V.ref)))) ∧ G.Ext d H1 J ∧ ∃ x y w, σ = [some (.ref d), x, y, w]) ⟨upd_same, Ext.at, _, _, _, rfl⟩ (fun i σ J _ h => h.1) ?_ ?_
      · rintro i v σ J J2 hi ⟨hJ, eJ, x, y, w0, rfl⟩ ⟨rfl, k, hk⟩
        obtain ⟨z, h1, rfl, h2⟩ := kz_at hk
        rw [List.getElem?_map] at h2
        cases h3 : ts[i]? with
        | none => rw [h3] at h2; cases h2
        | some t =>
          rw [h3] at h2
          cases h2
          have iu : i < us.length := by rw [U.lu]; exact (List.getElem?_eq_some_iff.mp h1).1
          have h4 : us[i]? = some us[i] := List.getElem?_eq_getElem iu
          obtain ⟨o1, o2, o3⟩ := ok.ok i z _ h1 h4
          have Z := U1.z i t _ h3 h4
          refine ⟨_, rfl, t, rfl, ⟨_, .inl (zt_ext Z U1.h eJ).rd⟩, ?_⟩
          refine for_tup (K := K) (a := t) (xs := us[i].map V.str) (fun _ σ J => J d = some (.frz od2 (.dK (kz ns (ts.map V.ref)))) ∧ G.Ext d H1 J ∧ ∃ x w, σ = [some (.ref d), x, some (.ref t), w]) ⟨hJ, eJ, _, _, rfl⟩ (fun _ _ _ _ h => .inl (zt_ext Z U1.h h.2.1).rd) ?_ ?_
          · rintro j v σ J3 hv ⟨hJ3, eJ3, x, w1, rfl⟩
            rw [List.getElem?_map] at hv
            cases h5 : us[i][j]? with
            | none => rw [h5] at hv; cases hv
            | some y =>
              rw [h5] at hv
              cases hv
              obtain ⟨o, g1, g2⟩ := kz_has (z := y) (.inr ⟨od2, hJ3⟩) lk ok.nd
              refine ⟨_, rfl, _, rfl, d, o, rfl, g1, _, rfl, ?_⟩
              rw [g2, decide_eq_true (o3 y (List.mem_of_getElem? h5))]
              exact iteF ⟨hJ3, eJ3, _, _, rfl⟩
          · rintro σ J3 ⟨hJ3, eJ3, x, w1, rfl⟩
            exact ⟨hJ3, eJ3, _, _, _, rfl⟩
      · rintro σ J ⟨hJ, eJ, x, y, w0, rfl⟩
        refine ⟨hJ, ?_⟩
        have s2 := unlock U1.h eJ
        have U2 := U1.ext s2
        generalize upd J d (.dK (kz ns (ts.map V.ref))) = H2 at s2 U2
        -- their number
        refine ⟨d, _, U2.h, trivial, fun od3 => ?_⟩
        refine ⟨_, rfl, d, od3, _, rfl, upd_same, fun D hD => ?_⟩
        have ndD : d ≠ D := ne_of_none upd_same hD
        have hD2 : H2 D = none := by rw [upd_ne ndD.symm] at hD; exact hD
        refine lc_it walk_values (fun i J => J d = some (.frz od3 (.dK (kz ns (ts.map V.ref)))) ∧ G.Ext d H2 J ∧ J D = some (.lst (((us.take i).map fun l => (l.length : Int)).map V.int)))
          ⟨by rw [upd_ne ndD, upd_same], Ext.at.trans (Ext.new hD), upd_same⟩ (fun i J _ h => h.1) ?_ ?_
        · rintro i v J J2 hi ⟨hJ, eJ, hl⟩ ⟨rfl, k, hk⟩
          obtain ⟨z, h1, rfl, h2⟩ := kz_at hk
          rw [List.getElem?_map] at h2
          cases h3 : ts[i]? with
          | none => rw [h3] at h2; cases h2
          | some t =>
            rw [h3] at h2
            cases h2
            have iu : i < us.length := by rw [U.lu]; exact (List.getElem?_eq_some_iff.mp h1).1
            have h4 : us[i]? = some us[i] := List.getElem?_eq_getElem iu
            have Z := zt_ext (U2.z i t _ h3 h4) U2.h eJ
            refine ⟨rfl, yesT ⟨_, rfl, t, _, rfl, Z.rd, _, hl, ?_, by rw [upd_ne ndD]; exact hJ, ext_put eJ hD2, ?_⟩⟩
            · simp only [List.length_map, List.length_take]
              rw [sizeLine_eq]
              omega
            · rw [upd_same, take_next h4, List.map_append, List.map_append, List.length_map]
              rfl
        · rintro J ⟨hJ, eJ, hl⟩
          have fl : us.take (kz ns (ts.map V.ref)).length = us := List.take_of_length_le (by rw [ll, U.lu]; exact Nat.le_refl _)
          rw [fl] at hl
          have s3 := unlock U2.h eJ
          refine ⟨hJ, D, _, rfl, SqL.of (by rw [upd_ne ndD.symm]; exact hl), _, _, rfl, rfl, _, rfl, ?_⟩
          have su : (us.map fun l => (l.length : Int)).sum = ((us.map List.length).sum : Nat) := by
            have : ∀ m : List (List Str), (m.map fun l => (l.length : Int)).sum = ((m.map List.length).sum : Nat) := fun m => by
              induction m with
              | nil => rfl
              | cons a b ih => simp only [List.map_cons, List.sum_cons, ih]; omega
            exact this us
          have s40 := ok.su
          refine ite2 (fun h1 => by have := of_decide_eq_true h1; rw [su] at this; omega) (fun _ => ?_)
          exact q _ (same_trans (same_trans s1 s2) s3)
end
end N23
set_option maxHeartbeats 1000000
namespace G
open PySem PySem.Spec PyProof.Rows L2
/-- a dict comprehension over what is walked -/
theorem dc_it {J : It} {n : Nat} {Gd : Hp → Prop} {Y : Nat → Hp → V → Hp → Prop} (w : Walk J n Gd Y) {g : TG} {tt : TT} {tk tv : TE} {vs : List Nat} {σ : L2.St} {H1 : Hp} {D : Addr} {Qd : Hp → Prop} (Pv : Nat → Hp → Prop)
    (h0 : Pv 0 (upd H1 D (.dK []))) (hG : ∀ i H, i ≤ n → Pv i H → Gd H)
    (hs : ∀ i x H H', i < n → Pv i H → Y i H x H' → g x (wipe σ vs) H' fun σ2 H2 => wipe σ2 vs = wipe σ vs ∧ tt σ2 H2 fun b H3 =>
      if b = true then tk σ2 H3 fun y H4 => tv σ2 H4 fun z H5 => ∃ kvs k, y = kV k ∧ H5 D = some (.dK kvs) ∧ kvs.length < sizeLine ∧ Pv (i + 1) (upd H5 D (.dK (putK kvs k z))) else Pv (i + 1) H3)
    (hd : ∀ H, Pv n H → Qd H) :
    ∃ W : Nat → Nat → Hp → Prop, (∃ m, W 0 m (upd H1 D (.dK []))) ∧ ∀ i m H, W i m H → (J.stop i H ∧ Qd H) ∨ (J.go i H ∧ ∃ Nx : Hp → Prop, (∀ H', Nx H' → ∃ m', m' < m ∧ W (i + 1) m' H') ∧
      ∀ x H', J.yld i H x H' → g x (wipe σ vs) H' fun σ2 H2 => wipe σ2 vs = wipe σ vs ∧ tt σ2 H2 fun b H3 =>
        if b = true then tk σ2 H3 fun y H4 => tv σ2 H4 fun z H5 => ∃ kvs k, y = kV k ∧ H5 D = some (.dK kvs) ∧ kvs.length < sizeLine ∧ Nx (upd H5 D (.dK (putK kvs k z))) else Nx H3) := by
  refine ⟨fun i m H => m = n - i ∧ i ≤ n ∧ Pv i H, ⟨n, by simp, Nat.zero_le _, h0⟩, ?_⟩
  rintro i m H ⟨rfl, hi, p⟩
  have q := hG i H hi p
  by_cases hlt : i < n
  · exact .inr ⟨w.goes i H hlt q, Pv (i + 1), fun H' p' => ⟨n - (i + 1), by omega, rfl, hlt, p'⟩, fun x H' y => hs i x H H' hlt p (w.yields i H x H' hlt q y)⟩
  · have e : i = n := by omega
    subst e
    exact .inl ⟨w.stops H q, hd H p⟩
end G
namespace N23
open PySem PySem.Spec PyProof.Rows L2 G
theorem kz_put {ns : List Str} {vs : List V} {i : Nat} {z : Str} {v : V} (n : ns.Nodup) (h : ns[i]? = some z) (l : vs.length = i) : putK (kz (ns.take i) vs) (Sum.inr z : Key) v = kz (ns.take (i + 1)) (vs ++ [v]) := by
  have li := (List.getElem?_eq_some_iff.mp h).1
  have ni : z ∉ ns.take i := by
    intro m
    obtain ⟨j, hj, e⟩ := List.mem_take_iff_getElem.mp m
    obtain ⟨hi, e2⟩ := List.getElem?_eq_some_iff.mp h
    have := (List.nodup_iff_pairwise_ne.mp n)
    have := List.pairwise_iff_getElem.mp this j i (by omega) hi (by omega)
    exact this (e.trans e2.symm)
  unfold putK
  rw [if_neg]
  · rw [take_next h]
    unfold kz
    rw [List.map_append, List.zip_append (by simp [l]; omega)]
    rfl
  · intro a
    rw [List.any_eq_true] at a
    obtain ⟨kv, hm, he⟩ := a
    obtain ⟨j, hj⟩ := List.getElem?_of_mem hm
    obtain ⟨y, h1, h2, _⟩ := kz_at (k := kv.1) (v := kv.2) hj
    have e : kv.1 = Sum.inr z := of_decide_eq_true he
    rw [h2] at e
    exact ni (by rw [← Sum.inr.inj e]; exact List.mem_of_getElem? h1)
abbrev Ver := List Win
/-- what a catalog holds -/
structure Cat where
  ns : List Str
  us : List (List Str)
  pb : List (List Ver)
  pr : List (List Bool)
  ev : List PyData
/-- where it holds it -/
structure CAd where
  dx : Addr
  aN : Addr
  aU : Addr
  aV : Addr
  aP : Addr
  aR : Addr
  aE : Addr
  ts : List Addr
  ps : List Addr
  qs : List Addr
def flds (A : CAd) : List (Str × V) := [("names", .ref A.aN), ("used_names", .ref A.aU), ("user_names", .ref A.aV), ("published", .ref A.aP), ("present", .ref A.aR), ("events", .ref A.aE)]
def verD (v : Ver) : PyData := .tuple (v.map winD)
structure CatAt (C : Addr) (H : Hp) (c : Addr) (A : CAd) (M : Cat) : Prop where
  o : H c = some (.ins C A.dx (flds A))
  n : H A.aN = some (.lst (M.ns.map V.str))
  u : UsesAt H A.aU M.ns A.ts M.us
  uk : UOk M.ns M.us
  p : H A.aP = some (.dK (kz M.ns (A.ps.map V.ref)))
  r : H A.aR = some (.dK (kz M.ns (A.qs.map V.ref)))
  lp : A.ps.length = M.ns.length
  lq : A.qs.length = M.ns.length
  lb : M.pb.length = M.ns.length
  lr : M.pr.length = M.ns.length
  pl : ∀ (i : Nat) (p : Addr) (ws : List Ver), A.ps[i]? = some p → M.pb[i]? = some ws → ∃ xs, H p = some (.lst xs) ∧ DaAll H xs (ws.map verD)
  rl : ∀ (i : Nat) (q : Addr) (bs : List Bool), A.qs[i]? = some q → M.pr[i]? = some bs → H q = some (.lst (bs.map V.bl))
  e : ∃ xs, H A.aE = some (.lst xs) ∧ DaAll H xs M.ev
  nd : (A.aN :: A.aE :: (A.ps ++ A.qs)).Nodup
  ei : ∀ d ∈ M.ev, imm d = true
def dom (c : Addr) (A : CAd) : List Addr := c :: A.aN :: A.aU :: A.aP :: A.aR :: A.aE :: (A.ps ++ A.qs)
theorem ver_imm (v : Ver) : imm (verD v) = true := by
  show immAll (v.map winD) = true
  rw [immAll_iff]
  intro d hd
  obtain ⟨w, _, rfl⟩ := List.mem_map.mp hd
  exact win_imm w
theorem vers_imm (ws : List Ver) : immAll (ws.map verD) = true := by
  rw [immAll_iff]
  intro d hd
  obtain ⟨w, _, rfl⟩ := List.mem_map.mp hd
  exact ver_imm w
theorem CatAt.keep {C : Addr} {H H' : Hp} {c : Addr} {A : CAd} {M : Cat} (X : CatAt C H c A M) (k : KT H H') (h : ∀ q ∈ dom c A, ∀ o, H q = some o → H' q = some o) : CatAt C H' c A M where
  o := h _ (by simp [dom]) _ X.o
  n := h _ (by simp [dom]) _ X.n
  u := ⟨h _ (by simp [dom]) _ X.u.h, X.u.lt, X.u.lu, fun i t l h1 h2 => (X.u.z i t l h1 h2).keep k⟩
  uk := X.uk
  p := h _ (by simp [dom]) _ X.p
  r := h _ (by simp [dom]) _ X.r
  lp := X.lp
  lq := X.lq
  lb := X.lb
  lr := X.lr
  pl := fun i p ws h1 h2 => by
    obtain ⟨xs, e, d⟩ := X.pl i p ws h1 h2
    exact ⟨xs, h _ (by have := List.mem_of_getElem? h1; simp [dom, this]) _ e, d.keep k (vers_imm ws)⟩
  rl := fun i q bs h1 h2 => h _ (by have := List.mem_of_getElem? h1; simp [dom, this]) _ (X.rl i q bs h1 h2)
  e := by
    obtain ⟨xs, e, d⟩ := X.e
    exact ⟨xs, h _ (by simp [dom]) _ e, d.keep k (immAll_iff.mpr X.ei)⟩
  nd := X.nd
  ei := X.ei
theorem CatAt.same {C : Addr} {H H' : Hp} {c : Addr} {A : CAd} {M : Cat} (X : CatAt C H c A M) (s : Same H H') : CatAt C H' c A M := X.keep (.of s) fun _ _ o h => s _ o h
/-- what is known of the class -/
structure CatC (K : PySem.W.Frag) (mg : Str → Option Value) (C : Addr) : Prop where
  cl : Cls K C
  n_names : NoAttr K C "names"
  n_used_names : NoAttr K C "used_names"
  n_user_names : NoAttr K C "user_names"
  n_published : NoAttr K C "published"
  n_present : NoAttr K C "present"
  n_events : NoAttr K C "events"
  gC : mg "Catalog" = some (.ref C)
def Cat.new (ns : List Str) (us : List (List Str)) : Cat := ⟨ns, us, ns.map fun _ => [], ns.map fun _ => [], []⟩
def spInit (C : Addr) : Sp := fun vs H Q _ => ∃ (c dx d : Addr) (ns : List Str) (ts : List Addr) (us : List (List Str)), vs = [.ref c, .ref d] ∧ H c = some (.ins C dx []) ∧ UsesAt H d ns ts us ∧ UOk ns us ∧
  ∀ (A : CAd) (H' : Hp), G.Ext c H H' → CatAt C H' c A (Cat.new ns us) → (∀ q ∈ dom c A, q ≠ c → H q = none) → Q .non H'
theorem f1 {v1 v2 : V} : putF "used_names" v2 (putF "names" v1 []) = ([("names", v1), ("used_names", v2)] : List (Str × V)) := rfl
theorem f2 {v1 v2 v3 v4 v5 v6 : V} : putF "events" v6 (putF "present" v5 (putF "published" v4 (putF "user_names" v3 (putF "used_names" v2 (putF "names" v1 []))))) =
    ([("names", v1), ("used_names", v2), ("user_names", v3), ("published", v4), ("present", v5), ("events", v6)] : List (Str × V)) := rfl
theorem kz_strs {ns : List Str} {vs : List V} (h : vs.length = ns.length) : (kz ns vs).map (fun kv => kV kv.1) = ns.map V.str := by
  have e := congrArg (List.map kV) (kz_keys h)
  rw [List.map_map, List.map_map] at e
  exact e
theorem UsesAt.extc {H H' : Hp} {c d dx C : Addr} {fs : List (Str × V)} {ns : List Str} {ts : List Addr} {us : List (List Str)} (U : UsesAt H d ns ts us) (hc : H c = some (.ins C dx fs)) (e : G.Ext c H H') : UsesAt H' d ns ts us :=
  ⟨e _ _ (ne_of U.h hc (by intro z; cases z)) U.h, U.lt, U.lu, fun i t l h1 h2 => by
    obtain ⟨ob, n, h⟩ := U.z i t l h1 h2
    exact ⟨ob, n, e _ _ (ne_of h hc (by intro z; cases z)) h⟩⟩
theorem take_all {α : Type} {l : List α} {n : Nat} (h : l.length = n) : l.take n = l := List.take_of_length_le (Nat.le_of_eq h)
theorem not_of_none {H : Hp} {p : Addr} {l : List Addr} {f : Addr → HO} (h : H p = none) (a : ∀ q ∈ l, H q = some (f q)) : p ∉ l := fun m => by
  rw [a p m] at h
  cases h
section
variable {P : Program} {w : World} {K : PySem.W.Frag} {mg : Str → Option Value} {base : Heap} {C : Addr}
theorem scIn : FnScope ["self", "uses", "name", "user"] ["self", "uses"] (defScope sInit) :=
  ⟨rfl, rfl, rfl, by decide +kernel, rfl, by decide +kernel, by decide +kernel⟩
theorem d_init {f : Addr} {fd : FuncData} (F : Fun K "__init__" "Catalog.__init__" sInit f fd) (T : Txt mg) (TC : CatC K mg C) (DU : Dn P w K mg base CX0 3 "require_uses" ["uses"] spReqUses) : FnOk P w K mg base CX0 4 f fd ["self", "uses"] (spInit C) := by
  refine F.ok scIn (fun vs H Q E h => ?_) (fun cdv A outer s H vs Q E hr h => ?_)
  · obtain ⟨c, dx, d, ns, ts, us, rfl, _⟩ := h
    rfl
  · obtain ⟨c, dx, d, ns, ts, us, rfl, hc, U, ok, q⟩ := h
    have hu := hu_of hr
    refine ⟨_, (pss_cons (ps_expr (pe_cD DU hr pass0 (pa_cons (pv 1) pa_nil)))
      (pss_cons (ps_fld (pv 0) (pe_callTy (call_list_dK rfl) (by rfl) T.list (by decide +kernel) (pa_cons (pv 1) pa_nil)) rfl)
      (pss_cons (ps_fld (pv 0) (pe_lock (pe_dc (own := [("name", 2)]) (g := (gName 2)) (tt := tYes) rfl scIn.nd (pi_keys (pv 1)) (blkOk_by (own := [("name", 2)]) (N := ["self", "uses", "name", "user"]) (sc := defScope sInit) (by decide +kernel)) (fun _ _ _ _ _ => (pg_name (i := 2) scIn.nd rfl (Or.inl rfl))) (fun _ _ _ _ _ => pts_nil) (fun _ _ _ _ _ => (pv 2)) (fun _ _ _ _ _ => (pe_dget hu (pv 1) (pv 2) (fun _ _ => rfl))))) rfl)
      (pss_cons (ps_fld (pv 0) (pe_lock (pe_dc (own := [("name", 2)]) (g := (gName 2)) (tt := tYes) rfl scIn.nd (pi_keys (pv 1)) (blkOk_by (own := [("name", 2)]) (N := ["self", "uses", "name", "user"]) (sc := defScope sInit) (by decide +kernel)) (fun _ _ _ _ _ => (pg_name (i := 2) scIn.nd rfl (Or.inr rfl))) (fun _ _ _ _ _ => pts_nil) (fun _ _ _ _ _ => (pv 2)) (fun _ _ _ _ _ => (pe_lc (own := [("user", 3)]) (g := (gName 3)) rfl scIn.nd (pi_keys (pv 1)) (blkOk_by (own := [("user", 3)]) (N := ["self", "uses", "name", "user"]) (sc := { kind := .function, names := [(".0", .local), ("name", .cell), ("uses", .cell)], isGenerator := false, isCoroutine := false }) (by decide +kernel)) (fun _ _ _ _ _ => (pg_name (i := 3) scIn.nd rfl (Or.inl rfl))) (fun _ _ _ _ _ => (pts_one (pt_cmpR inT (pv 2) (pe_dget hu (pv 1) (pv 3) (fun _ _ => rfl)) (by rfl)))) (fun _ _ _ _ _ => (pv 3)))))) rfl)
      (pss_cons (ps_fld (pv 0) (pe_lock (pe_dc (own := [("name", 2)]) (g := (gName 2)) (tt := tYes) rfl scIn.nd (pi_keys (pv 1)) (blkOk_by (own := [("name", 2)]) (N := ["self", "uses", "name", "user"]) (sc := defScope sInit) (by decide +kernel)) (fun _ _ _ _ _ => (pg_name (i := 2) scIn.nd rfl (Or.inl rfl))) (fun _ _ _ _ _ => pts_nil) (fun _ _ _ _ _ => (pv 2)) (fun _ _ _ _ _ => (pe_lst pa_nil)))) rfl)
      (pss_cons (ps_fld (pv 0) (pe_lock (pe_dc (own := [("name", 2)]) (g := (gName 2)) (tt := tYes) rfl scIn.nd (pi_keys (pv 1)) (blkOk_by (own := [("name", 2)]) (N := ["self", "uses", "name", "user"]) (sc := defScope sInit) (by decide +kernel)) (fun _ _ _ _ _ => (pg_name (i := 2) scIn.nd rfl (Or.inl rfl))) (fun _ _ _ _ _ => pts_nil) (fun _ _ _ _ _ => (pv 2)) (fun _ _ _ _ _ => (pe_lst pa_nil)))) rfl)
      (pss_one (ps_fld (pv 0) (pe_lst pa_nil) rfl)))))))), ?_⟩
    refine ⟨_, rfl, d, ns, ts, us, rfl, U, ok, fun H1 s1 => ?_⟩
    have hc1 := s1 _ _ hc
    have U1 := U.ext s1
    have lk : (ts.map V.ref).length = ns.length := by rw [List.length_map, U.lt]
    have ll := kz_len lk
    have le := ok.le
    -- names
    refine ⟨_, rfl, d, _, rfl, U1.h, fun aN hN => ?_⟩
    have ncN : c ≠ aN := ne_of_none hc1 hN
    refine ⟨_, rfl, c, C, dx, [], rfl, (by rw [upd_ne ncN]; exact hc1), TC.cl, TC.n_names, (by show 0 < 1000; decide), ?_⟩
    rw [kz_strs lk]
    have N0 : H aN = none := same_none s1 hN
    have ea : G.Ext c H (upd (upd H1 aN (.lst (ns.map V.str))) c (.ins C dx (putF "names" (.ref aN) []))) := (Ext.of s1).trans ((Ext.new hN).trans Ext.at)
    have ca : (upd (upd H1 aN (.lst (ns.map V.str))) c (.ins C dx (putF "names" (.ref aN) []))) c = some (.ins C dx (putF "names" (.ref aN) [])) := upd_same
    have na : (upd (upd H1 aN (.lst (ns.map V.str))) c (.ins C dx (putF "names" (.ref aN) []))) aN = some (.lst (ns.map V.str)) := by rw [upd_ne ncN.symm, upd_same]
    have Ua := U.extc hc ea
    generalize upd (upd H1 aN (.lst (ns.map V.str))) c (.ins C dx (putF "names" (.ref aN) [])) = Ha at ea ca na Ua
    -- used_names
    refine ⟨d, _, Ua.h, trivial, fun od => ⟨_, rfl, d, od, rfl, .inl ⟨_, upd_same, fun aU hU => ?_⟩⟩⟩
    have ndU : d ≠ aU := ne_of_none upd_same hU
    have hU2 : Ha aU = none := by rw [upd_ne ndU.symm] at hU; exact hU
    refine dc_it walk_keys (fun i J => J d = some (.frz od (.dK (kz ns (ts.map V.ref)))) ∧ G.Ext d Ha J ∧ J aU = some (.dK (kz (ns.take i) ((ts.take i).map V.ref))))
      ⟨by rw [upd_ne ndU, upd_same], Ext.at.trans (Ext.new hU), upd_same⟩ (fun i J _ h => h.1) ?_ ?_
    · rintro i x J J2 hi ⟨hJ, eJ, jU⟩ ⟨rfl, k, v, hk, rfl⟩
      obtain ⟨z, h1, rfl, h2⟩ := kz_at hk
      have h2' := h2
      rw [List.getElem?_map] at h2'
      cases h3 : ts[i]? with
      | none => rw [h3] at h2'; cases h2'
      | some t =>
        rw [h3] at h2'
        cases h2'
        have li := (List.getElem?_eq_some_iff.mp h3).1
        refine ⟨rfl, yesT ⟨_, rfl, _, rfl, _, rfl, d, _, rfl, kz_dget (.inr ⟨od, hJ⟩) lk ok.nd h1 h2, _, Sum.inr z, rfl, jU, ?_, ?_, ext_put eJ hU2, ?_⟩⟩
        · rw [kz_len (by simp [U.lt])]
          simp only [List.length_take]
          rw [sizeLine_eq]
          omega
        · rw [upd_ne ndU]; exact hJ
        · rw [upd_same, kz_put ok.nd h1 (by simp; omega), take_next h3, List.map_append]
          rfl
    rintro J ⟨hJ, eJ, jU⟩
    rw [ll, take_all rfl, take_all U.lt] at jU
    refine ⟨hJ, ?_⟩
    have sb := unlock Ua.h eJ
    have jU' : (upd J d (.dK (kz ns (ts.map V.ref)))) aU = some (.dK (kz ns (ts.map V.ref))) := by rw [upd_ne ndU.symm]; exact jU
    generalize upd J d (.dK (kz ns (ts.map V.ref))) = Hb at sb jU'
    have nUc : aU ≠ c := fun z => by rw [z] at hU2; rw [ca] at hU2; cases hU2
    refine ⟨_, rfl, c, C, dx, _, rfl, sb _ _ ca, TC.cl, TC.n_used_names, (by show 1 < 1000; decide), ?_⟩
    have U0 : H aU = none := ea.none nUc hU2
    have nNc : aN ≠ c := ncN.symm
    have nNU : aN ≠ aU := ne_of_none na hU2
    have eb : G.Ext c H (upd Hb c (.ins C dx (putF "used_names" (.ref aU) (putF "names" (.ref aN) [])))) := ea.trans ((Ext.of sb).trans Ext.at)
    have cb : (upd Hb c (.ins C dx (putF "used_names" (.ref aU) (putF "names" (.ref aN) [])))) c = some (.ins C dx (putF "used_names" (.ref aU) (putF "names" (.ref aN) []))) := upd_same
    have nb : (upd Hb c (.ins C dx (putF "used_names" (.ref aU) (putF "names" (.ref aN) [])))) aN = some (.lst (ns.map V.str)) := by rw [upd_ne nNc]; exact sb _ _ na
    have ub : (upd Hb c (.ins C dx (putF "used_names" (.ref aU) (putF "names" (.ref aN) [])))) aU = some (.dK (kz ns (ts.map V.ref))) := by rw [upd_ne nUc]; exact jU'
    have Ub := U.extc hc eb
    generalize upd Hb c (.ins C dx (putF "used_names" (.ref aU) (putF "names" (.ref aN) []))) = Hc at eb cb nb ub Ub
    -- user_names
    refine ⟨d, _, Ub.h, trivial, fun od2 => ⟨_, rfl, d, od2, rfl, .inl ⟨_, upd_same, fun aV hV => ?_⟩⟩⟩
    have ndV : d ≠ aV := ne_of_none upd_same hV
    have hV2 : Hc aV = none := by rw [upd_ne ndV.symm] at hV; exact hV
    refine dc_it walk_keys (fun i J => J d = some (.frz od2 (.dK (kz ns (ts.map V.ref)))) ∧ G.Ext d Hc J ∧ ∃ vl : List Addr, vl.length = i ∧ J aV = some (.dK (kz (ns.take i) (vl.map V.ref))))
      ⟨by rw [upd_ne ndV, upd_same], Ext.at.trans (Ext.new hV), [], rfl, upd_same⟩ (fun i J _ h => h.1) ?_ ?_
    · rintro i x J J2 hi ⟨hJ, eJ, vl, lv, jV⟩ ⟨rfl, k, v, hk, rfl⟩
      obtain ⟨z, h1, rfl, h2⟩ := kz_at hk
      refine ⟨rfl, yesT ⟨_, rfl, _, rfl, d, od2, rfl, .inl ⟨_, hJ, fun D2 hD2 => ?_⟩⟩⟩
      have ndD : d ≠ D2 := ne_of_none hJ hD2
      have nVD : aV ≠ D2 := ne_of_none jV hD2
      have hD3 : Hc D2 = none := eJ.none ndD.symm hD2
      refine lc_it walk_keys (fun j J => J d = some (.frz od2 (.dK (kz ns (ts.map V.ref)))) ∧ G.Ext d Hc J ∧ J aV = some (.dK (kz (ns.take i) (vl.map V.ref))) ∧ ∃ acc, J D2 = some (.lst acc) ∧ acc.length ≤ j)
        ⟨by rw [upd_ne ndD]; exact hJ, eJ.trans (Ext.new hD2), by rw [upd_ne nVD]; exact jV, [], upd_same, Nat.le_refl _⟩ (fun i J _ h => h.1) ?_ ?_
      · rintro j x J3 J4 hj ⟨hJ3, eJ3, jV3, acc, jD3, la⟩ ⟨rfl, k, v, hk, rfl⟩
        obtain ⟨y, g1, rfl, g2⟩ := kz_at hk
        have g2' := g2
        rw [List.getElem?_map] at g2'
        cases h3 : ts[j]? with
        | none => rw [h3] at g2'; cases g2'
        | some t =>
          rw [h3] at g2'
          cases g2'
          have iu : j < us.length := by rw [U.lu]; exact (List.getElem?_eq_some_iff.mp g1).1
          have Z := zt_ext (Ub.z j t _ h3 (List.getElem?_eq_getElem iu)) Ub.h eJ3
          refine ⟨rfl, _, rfl, _, rfl, _, rfl, d, _, rfl, kz_dget (.inr ⟨od2, hJ3⟩) lk ok.nd g1 g2, t, _, rfl, Z.rd, rfl, strs_flat _, _, rfl, ?_⟩
          refine ite2 (fun _ => ?_) (fun _ => ?_)
          · refine ⟨_, rfl, acc, jD3, ?_, ?_, ext_put eJ3 hD3, ?_, _, upd_same, ?_⟩
            · rw [sizeLine_eq]
              omega
            · rw [upd_ne ndD]; exact hJ3
            · rw [upd_ne nVD]; exact jV3
            · rw [List.length_append]
              show acc.length + 1 ≤ j + 1
              omega
          · exact ⟨hJ3, eJ3, jV3, acc, jD3, Nat.le_succ_of_le la⟩
      · rintro J3 ⟨hJ3, eJ3, jV3, acc, jD3, la⟩
        refine ⟨_, Sum.inr z, rfl, jV3, ?_, ?_, ext_put eJ3 hV2, vl ++ [D2], by simp [lv], ?_⟩
        · rw [kz_len (by simp [lv]; omega)]
          simp only [List.length_take]
          rw [sizeLine_eq]
          omega
        · rw [upd_ne ndV]; exact hJ3
        · rw [upd_same, kz_put ok.nd h1 (by simp [lv]), List.map_append]
          rfl
    rintro J ⟨hJ, eJ, vl, lv, jV⟩
    refine ⟨hJ, ?_⟩
    have sc' := unlock Ub.h eJ
    generalize upd J d (.dK (kz ns (ts.map V.ref))) = Hd at sc'
    have nVc : aV ≠ c := fun z => by rw [z] at hV2; rw [cb] at hV2; cases hV2
    refine ⟨_, rfl, c, C, dx, _, rfl, sc' _ _ cb, TC.cl, TC.n_user_names, (by show 2 < 1000; decide), ?_⟩
    have ed : G.Ext c H (upd Hd c (.ins C dx (putF "user_names" (.ref aV) (putF "used_names" (.ref aU) (putF "names" (.ref aN) []))))) := eb.trans ((Ext.of sc').trans Ext.at)
    have cd : (upd Hd c (.ins C dx (putF "user_names" (.ref aV) (putF "used_names" (.ref aU) (putF "names" (.ref aN) []))))) c = some (.ins C dx (putF "user_names" (.ref aV) (putF "used_names" (.ref aU) (putF "names" (.ref aN) [])))) := upd_same
    have ndn : (upd Hd c (.ins C dx (putF "user_names" (.ref aV) (putF "used_names" (.ref aU) (putF "names" (.ref aN) []))))) aN = some (.lst (ns.map V.str)) := by rw [upd_ne nNc]; exact sc' _ _ nb
    have ud : (upd Hd c (.ins C dx (putF "user_names" (.ref aV) (putF "used_names" (.ref aU) (putF "names" (.ref aN) []))))) aU = some (.dK (kz ns (ts.map V.ref))) := by rw [upd_ne nUc]; exact sc' _ _ ub
    have Ud := U.extc hc ed
    generalize upd Hd c (.ins C dx (putF "user_names" (.ref aV) (putF "used_names" (.ref aU) (putF "names" (.ref aN) [])))) = He at ed cd ndn ud Ud
    -- published
    refine ⟨d, _, Ud.h, trivial, fun od3 => ⟨_, rfl, d, od3, rfl, .inl ⟨_, upd_same, fun aP hP => ?_⟩⟩⟩
    have ndP : d ≠ aP := ne_of_none upd_same hP
    have hP2 : He aP = none := by rw [upd_ne ndP.symm] at hP; exact hP
    refine dc_it walk_keys (fun i J => J d = some (.frz od3 (.dK (kz ns (ts.map V.ref)))) ∧ G.Ext d He J ∧ ∃ ps : List Addr, ps.length = i ∧ ps.Nodup ∧ aP ∉ ps ∧ (∀ p ∈ ps, He p = none) ∧ (∀ p ∈ ps, J p = some (.lst [])) ∧ J aP = some (.dK (kz (ns.take i) (ps.map V.ref))))
      ⟨by rw [upd_ne ndP, upd_same], Ext.at.trans (Ext.new hP), [], rfl, List.nodup_nil, by simp, by simp, by simp, upd_same⟩ (fun i J _ h => h.1) ?_ ?_
    · rintro i x J J2 hi ⟨hJ, eJ, ps, lp, np, nPp, fp, hp, jP⟩ ⟨rfl, k, v, hk, rfl⟩
      obtain ⟨z, h1, rfl, h2⟩ := kz_at hk
      refine ⟨rfl, yesT ⟨_, rfl, Nat.zero_le _, fun p pn => ?_⟩⟩
      have ndp : d ≠ p := ne_of_none hJ pn
      have nPp2 : aP ≠ p := ne_of_none jP pn
      have npp : p ∉ ps := not_of_none pn hp
      refine ⟨_, Sum.inr z, rfl, (by rw [upd_ne nPp2]; exact jP), ?_, ?_, ext_put (eJ.trans (Ext.new pn)) hP2, ps ++ [p], by simp [lp], ?_, ?_, ?_, ?_, ?_⟩
      · rw [kz_len (by simp [lp]; omega)]
        simp only [List.length_take]
        rw [sizeLine_eq]
        omega
      · rw [upd_ne ndP, upd_ne ndp]; exact hJ
      · rw [List.nodup_append]
        exact ⟨np, by simp, fun a ha b hb e => by rw [List.mem_singleton.mp hb] at e; exact npp (e ▸ ha)⟩
      · simp [nPp, nPp2]
      · intro q hq
        rcases List.mem_append.mp hq with hq | hq
        · exact fp q hq
        · rw [List.mem_singleton.mp hq]; exact eJ.none ndp.symm pn
      · intro q hq
        rcases List.mem_append.mp hq with hq | hq
        · rw [upd_ne (fun (e : q = aP) => nPp (e ▸ hq)), upd_ne (fun (e : q = p) => npp (e ▸ hq))]; exact hp q hq
        · rw [List.mem_singleton.mp hq, upd_ne nPp2.symm, upd_same]
      · rw [upd_same, kz_put ok.nd h1 (by simp [lp]), List.map_append]
        rfl
    rintro J ⟨hJ, eJ, ps, lp, np, nPp, fp, hp, jP⟩
    rw [ll] at lp
    rw [ll, take_all rfl] at jP
    refine ⟨hJ, ?_⟩
    have se := unlock Ud.h eJ
    have dps : ∀ p ∈ ps, p ≠ d := fun p m z => by have := fp p m; rw [z, Ud.h] at this; cases this
    have jP' : (upd J d (.dK (kz ns (ts.map V.ref)))) aP = some (.dK (kz ns (ps.map V.ref))) := by rw [upd_ne ndP.symm]; exact jP
    have hp' : ∀ p ∈ ps, (upd J d (.dK (kz ns (ts.map V.ref)))) p = some (.lst []) := fun p m => by rw [upd_ne (dps p m)]; exact hp p m
    generalize upd J d (.dK (kz ns (ts.map V.ref))) = Hf at se jP' hp'
    have nPc : aP ≠ c := fun z => by rw [z] at hP2; rw [cd] at hP2; cases hP2
    have npc : ∀ p ∈ ps, p ≠ c := fun p m z => by have := fp p m; rw [z, cd] at this; cases this
    refine ⟨_, rfl, c, C, dx, _, rfl, se _ _ cd, TC.cl, TC.n_published, (by show 3 < 1000; decide), ?_⟩
    have P0 : H aP = none := ed.none nPc hP2
    have fp0 : ∀ p ∈ ps, H p = none := fun p m => ed.none (npc p m) (fp p m)
    have ef : G.Ext c H (upd Hf c (.ins C dx (putF "published" (.ref aP) (putF "user_names" (.ref aV) (putF "used_names" (.ref aU) (putF "names" (.ref aN) [])))))) := ed.trans ((Ext.of se).trans Ext.at)
    have cf : (upd Hf c (.ins C dx (putF "published" (.ref aP) (putF "user_names" (.ref aV) (putF "used_names" (.ref aU) (putF "names" (.ref aN) [])))))) c = some (.ins C dx (putF "published" (.ref aP) (putF "user_names" (.ref aV) (putF "used_names" (.ref aU) (putF "names" (.ref aN) []))))) := upd_same
    have nf : (upd Hf c (.ins C dx (putF "published" (.ref aP) (putF "user_names" (.ref aV) (putF "used_names" (.ref aU) (putF "names" (.ref aN) [])))))) aN = some (.lst (ns.map V.str)) := by rw [upd_ne nNc]; exact se _ _ ndn
    have uf : (upd Hf c (.ins C dx (putF "published" (.ref aP) (putF "user_names" (.ref aV) (putF "used_names" (.ref aU) (putF "names" (.ref aN) [])))))) aU = some (.dK (kz ns (ts.map V.ref))) := by rw [upd_ne nUc]; exact se _ _ ud
    have pf : (upd Hf c (.ins C dx (putF "published" (.ref aP) (putF "user_names" (.ref aV) (putF "used_names" (.ref aU) (putF "names" (.ref aN) [])))))) aP = some (.dK (kz ns (ps.map V.ref))) := by rw [upd_ne nPc]; exact jP'
    have hf : ∀ p ∈ ps, (upd Hf c (.ins C dx (putF "published" (.ref aP) (putF "user_names" (.ref aV) (putF "used_names" (.ref aU) (putF "names" (.ref aN) [])))))) p = some (.lst []) := fun p m => by rw [upd_ne (npc p m)]; exact hp' p m
    have Uf := U.extc hc ef
    generalize upd Hf c (.ins C dx (putF "published" (.ref aP) (putF "user_names" (.ref aV) (putF "used_names" (.ref aU) (putF "names" (.ref aN) []))))) = Hg at ef cf nf uf pf hf Uf
    -- present
    refine ⟨d, _, Uf.h, trivial, fun od4 => ⟨_, rfl, d, od4, rfl, .inl ⟨_, upd_same, fun aR hR => ?_⟩⟩⟩
    have ndR : d ≠ aR := ne_of_none upd_same hR
    have hR2 : Hg aR = none := by rw [upd_ne ndR.symm] at hR; exact hR
    refine dc_it walk_keys (fun i J => J d = some (.frz od4 (.dK (kz ns (ts.map V.ref)))) ∧ G.Ext d Hg J ∧ ∃ ps : List Addr, ps.length = i ∧ ps.Nodup ∧ aR ∉ ps ∧ (∀ p ∈ ps, Hg p = none) ∧ (∀ p ∈ ps, J p = some (.lst [])) ∧ J aR = some (.dK (kz (ns.take i) (ps.map V.ref))))
      ⟨by rw [upd_ne ndR, upd_same], Ext.at.trans (Ext.new hR), [], rfl, List.nodup_nil, by simp, by simp, by simp, upd_same⟩ (fun i J _ h => h.1) ?_ ?_
    · rintro i x J J2 hi ⟨hJ, eJ, qs, lp, np, nPp, fp, hp, jP⟩ ⟨rfl, k, v, hk, rfl⟩
      obtain ⟨z, h1, rfl, h2⟩ := kz_at hk
      refine ⟨rfl, yesT ⟨_, rfl, Nat.zero_le _, fun p pn => ?_⟩⟩
      have ndp : d ≠ p := ne_of_none hJ pn
      have nPp2 : aR ≠ p := ne_of_none jP pn
      have npp : p ∉ qs := not_of_none pn hp
      refine ⟨_, Sum.inr z, rfl, (by rw [upd_ne nPp2]; exact jP), ?_, ?_, ext_put (eJ.trans (Ext.new pn)) hR2, qs ++ [p], by simp [lp], ?_, ?_, ?_, ?_, ?_⟩
      · rw [kz_len (by simp [lp]; omega)]
        simp only [List.length_take]
        rw [sizeLine_eq]
        omega
      · rw [upd_ne ndR, upd_ne ndp]; exact hJ
      · rw [List.nodup_append]
        exact ⟨np, by simp, fun a ha b hb e => by rw [List.mem_singleton.mp hb] at e; exact npp (e ▸ ha)⟩
      · simp [nPp, nPp2]
      · intro q hq
        rcases List.mem_append.mp hq with hq | hq
        · exact fp q hq
        · rw [List.mem_singleton.mp hq]; exact eJ.none ndp.symm pn
      · intro q hq
        rcases List.mem_append.mp hq with hq | hq
        · rw [upd_ne (fun (e : q = aR) => nPp (e ▸ hq)), upd_ne (fun (e : q = p) => npp (e ▸ hq))]; exact hp q hq
        · rw [List.mem_singleton.mp hq, upd_ne nPp2.symm, upd_same]
      · rw [upd_same, kz_put ok.nd h1 (by simp [lp]), List.map_append]
        rfl
    rintro J ⟨hJ, eJ, qs, lq, nq, nRq, fq, hq, jR⟩
    rw [ll] at lq
    rw [ll, take_all rfl] at jR
    refine ⟨hJ, ?_⟩
    have sg := unlock Uf.h eJ
    have dqs : ∀ p ∈ qs, p ≠ d := fun p m z => by have := fq p m; rw [z, Uf.h] at this; cases this
    have jR' : (upd J d (.dK (kz ns (ts.map V.ref)))) aR = some (.dK (kz ns (qs.map V.ref))) := by rw [upd_ne ndR.symm]; exact jR
    have hq' : ∀ p ∈ qs, (upd J d (.dK (kz ns (ts.map V.ref)))) p = some (.lst []) := fun p m => by rw [upd_ne (dqs p m)]; exact hq p m
    generalize upd J d (.dK (kz ns (ts.map V.ref))) = Hh at sg jR' hq'
    have nRc : aR ≠ c := fun z => by rw [z] at hR2; rw [cf] at hR2; cases hR2
    have nqc : ∀ p ∈ qs, p ≠ c := fun p m z => by have := fq p m; rw [z, cf] at this; cases this
    refine ⟨_, rfl, c, C, dx, _, rfl, sg _ _ cf, TC.cl, TC.n_present, (by show 4 < 1000; decide), ?_⟩
    have R0 : H aR = none := ef.none nRc hR2
    have fq0 : ∀ p ∈ qs, H p = none := fun p m => ef.none (nqc p m) (fq p m)
    -- events
    refine ⟨Nat.zero_le _, fun aE hE => ?_⟩
    have nEc : c ≠ aE := ne_of_none upd_same hE
    have hE2 : Hh aE = none := by rw [upd_ne nEc.symm] at hE; exact hE
    refine ⟨_, rfl, c, C, dx, _, rfl, (by rw [upd_ne nEc, upd_same]), TC.cl, TC.n_events, (by show 5 < 1000; decide), ?_⟩
    have E0 : H aE = none := (ef.trans (Ext.of sg)).none nEc.symm hE2
    have fin : ∀ q o, q ≠ c → q ≠ aE → Hh q = some o → (upd (upd (upd Hh c (.ins C dx (putF "present" (.ref aR) (putF "published" (.ref aP) (putF "user_names" (.ref aV) (putF "used_names" (.ref aU) (putF "names" (.ref aN) []))))))) aE (.lst []))
        c (.ins C dx (putF "events" (.ref aE) (putF "present" (.ref aR) (putF "published" (.ref aP) (putF "user_names" (.ref aV) (putF "used_names" (.ref aU) (putF "names" (.ref aN) [])))))))) q = some o := fun q o h1 h2 h3 => by
      rw [upd_ne h1, upd_ne h2, upd_ne h1]; exact h3
    have lE : ∀ {q : Addr} {o : HO}, Hh q = some o → q ≠ aE := fun h => ne_of_none h hE2
    have kf := (ef.trans (Ext.of sg))
    refine q ⟨dx, aN, aU, aV, aP, aR, aE, ts, ps, qs⟩ _ ?_ ?_ ?_
    · intro b o hb h
      exact fin b o hb (ne_of_none h E0) (kf b o hb h)
    · have Uh := U.extc hc kf
      refine ⟨?_, ?_, ?_, ok, ?_, ?_, lp, lq, by simp [Cat.new], by simp [Cat.new], ?_, ?_, ⟨[], ?_, .nil⟩, ?_, fun d hd => by cases hd⟩
      · rw [upd_same, f2]; rfl
      · exact fin _ _ nNc (lE (sg _ _ nf)) (sg _ _ nf)
      · refine ⟨fin _ _ nUc (lE (sg _ _ uf)) (sg _ _ uf), U.lt, U.lu, fun i t l h1 h2 => ?_⟩
        obtain ⟨ob, n, h⟩ := Uh.z i t l h1 h2
        refine ⟨ob, n, fin _ _ (fun z => ?_) (lE h) h⟩
        rw [z, sg _ _ cf] at h
        cases h
      · exact fin _ _ nPc (lE (sg _ _ pf)) (sg _ _ pf)
      · exact fin _ _ nRc (lE jR') jR'
      · intro i p ws h1 h2
        have m := List.mem_of_getElem? h1
        have e : ws = [] := by
          simp only [Cat.new, List.getElem?_map] at h2
          cases h3 : ns[i]? with
          | none => rw [h3] at h2; cases h2
          | some z => rw [h3] at h2; exact (Option.some.inj h2).symm
        rw [e]
        exact ⟨[], fin _ _ (npc p m) (lE (sg _ _ (hf p m))) (sg _ _ (hf p m)), .nil⟩
      · intro i p bs h1 h2
        have m := List.mem_of_getElem? h1
        have e : bs = [] := by
          simp only [Cat.new, List.getElem?_map] at h2
          cases h3 : ns[i]? with
          | none => rw [h3] at h2; cases h2
          | some z => rw [h3] at h2; exact (Option.some.inj h2).symm
        rw [e]
        exact fin _ _ (nqc p m) (lE (hq' p m)) (hq' p m)
      · rw [upd_ne nEc.symm, upd_same]
      · show (aN :: aE :: (ps ++ qs)).Nodup
        rw [List.nodup_cons, List.nodup_cons, List.nodup_append]
        refine ⟨fun m => ?_, fun m => ?_, np, nq, fun a ha b hb e => ?_⟩
        · have cs : aN = aE ∨ aN ∈ ps ∨ aN ∈ qs := by simpa using m
          rcases cs with e | m | m
          · exact lE (sg _ _ nf) e
          · have := fp aN m
            rw [ndn] at this
            cases this
          · have := fq aN m
            rw [nf] at this
            cases this
        · rcases List.mem_append.mp m with m | m
          · exact lE (sg _ _ (hf aE m)) rfl
          · exact lE (hq' aE m) rfl
        · have h1 := hf a ha
          have h2 := fq b hb
          rw [e] at h1
          rw [h1] at h2
          cases h2
    · intro q hq' hne
      simp only [dom, List.mem_cons, List.mem_append] at hq'
      rcases hq' with h | h | h | h | h | h | h | h
      · exact absurd h hne
      · rw [h]; exact N0
      · rw [h]; exact U0
      · rw [h]; exact P0
      · rw [h]; exact R0
      · rw [h]; exact E0
      · exact fp0 q h
      · exact fq0 q h
end
end N23
set_option maxHeartbeats 1000000
namespace N23
open PySem PySem.Spec PyProof.Rows L2 G
theorem fl_names {A : CAd} : (flds A).lookup ("names" : Str) = some (V.ref A.aN) := rfl
theorem fl_used {A : CAd} : (flds A).lookup ("used_names" : Str) = some (V.ref A.aU) := rfl
theorem fl_pub {A : CAd} : (flds A).lookup ("published" : Str) = some (V.ref A.aP) := rfl
theorem fl_pres {A : CAd} : (flds A).lookup ("present" : Str) = some (V.ref A.aR) := rfl
theorem fl_ev {A : CAd} : (flds A).lookup ("events" : Str) = some (V.ref A.aE) := rfl
section
variable {C : Addr} {H : Hp} {c : Addr} {A : CAd} {M : Cat}
theorem CatAt.lt (X : CatAt C H c A M) : (A.ts.map V.ref).length = M.ns.length := by rw [List.length_map, X.u.lt]
theorem CatAt.lps (X : CatAt C H c A M) : (A.ps.map V.ref).length = M.ns.length := by rw [List.length_map, X.lp]
theorem CatAt.lqs (X : CatAt C H c A M) : (A.qs.map V.ref).length = M.ns.length := by rw [List.length_map, X.lq]
/-- the tuple of a module -/
theorem CatAt.used (X : CatAt C H c A M) {i : Nat} {z : Str} {u : List Str} (h1 : M.ns[i]? = some z) (h2 : M.us[i]? = some u) : ∃ t, DGet H A.aU (.str z) (some (.ref t)) ∧ Zt H t (u.map V.str) := by
  have li := (List.getElem?_eq_some_iff.mp h1).1
  have lt : i < A.ts.length := by rw [X.u.lt]; exact li
  have h3 : A.ts[i]? = some A.ts[i] := List.getElem?_eq_getElem lt
  exact ⟨A.ts[i], kz_dget (.inl X.u.h) X.lt X.uk.nd h1 (by rw [List.getElem?_map, h3]; rfl), X.u.z i _ u h3 h2⟩
theorem CatAt.pub (X : CatAt C H c A M) {i : Nat} {z : Str} {ws : List Ver} (h1 : M.ns[i]? = some z) (h2 : M.pb[i]? = some ws) : ∃ p xs, A.ps[i]? = some p ∧ DGet H A.aP (.str z) (some (.ref p)) ∧ H p = some (.lst xs) ∧ DaAll H xs (ws.map verD) := by
  have li := (List.getElem?_eq_some_iff.mp h1).1
  have lt : i < A.ps.length := by rw [X.lp]; exact li
  have h3 : A.ps[i]? = some A.ps[i] := List.getElem?_eq_getElem lt
  obtain ⟨xs, e, d⟩ := X.pl i _ ws h3 h2
  exact ⟨A.ps[i], xs, h3, kz_dget (.inl X.p) X.lps X.uk.nd h1 (by rw [List.getElem?_map, h3]; rfl), e, d⟩
theorem CatAt.pres (X : CatAt C H c A M) {i : Nat} {z : Str} {bs : List Bool} (h1 : M.ns[i]? = some z) (h2 : M.pr[i]? = some bs) : ∃ q, A.qs[i]? = some q ∧ DGet H A.aR (.str z) (some (.ref q)) ∧ H q = some (.lst (bs.map V.bl)) := by
  have li := (List.getElem?_eq_some_iff.mp h1).1
  have lt : i < A.qs.length := by rw [X.lq]; exact li
  have h3 : A.qs[i]? = some A.qs[i] := List.getElem?_eq_getElem lt
  exact ⟨A.qs[i], h3, kz_dget (.inl X.r) X.lqs X.uk.nd h1 (by rw [List.getElem?_map, h3]; rfl), X.rl i _ bs h3 h2⟩
end
def spIsMod (C : Addr) : Sp := fun vs H Q _ => ∃ (c : Addr) (A : CAd) (M : Cat) (z : Str), vs = [.ref c, .str z] ∧ CatAt C H c A M ∧ Q (.bl (decide (z ∈ M.ns))) H
def spReqMod (C : Addr) : Sp := fun vs H Q _ => ∃ (c : Addr) (A : CAd) (M : Cat) (z : Str), vs = [.ref c, .str z] ∧ CatAt C H c A M ∧ z ∈ M.ns ∧ Q .non H
def spModules (C : Addr) : Sp := fun vs H Q _ => ∃ (c : Addr) (A : CAd) (M : Cat), vs = [.ref c] ∧ CatAt C H c A M ∧ ∀ l, H l = none → Q (.ref l) (upd H l (.lst (M.ns.map V.str)))
def spUses (C : Addr) : Sp := fun vs H Q _ => ∃ (c : Addr) (A : CAd) (M : Cat) (z : Str) (i : Nat) (u : List Str), vs = [.ref c, .str z] ∧ CatAt C H c A M ∧ M.ns[i]? = some z ∧ M.us[i]? = some u ∧ ∀ l, H l = none → Q (.ref l) (upd H l (.lst (u.map V.str)))
def spVersions (C : Addr) : Sp := fun vs H Q _ => ∃ (c : Addr) (A : CAd) (M : Cat) (z : Str) (i : Nat) (ws : List Ver), vs = [.ref c, .str z] ∧ CatAt C H c A M ∧ M.ns[i]? = some z ∧ M.pb[i]? = some ws ∧ Q (.int (ws.length : Nat)) H
def spWindow (C : Addr) : Sp := fun vs H Q _ => ∃ (c : Addr) (A : CAd) (M : Cat) (z y : Str) (i j n : Nat) (u : List Str) (ws : List Ver) (v : Ver) (x : Win), vs = [.ref c, .str z, .str y, .int (n : Nat)] ∧ CatAt C H c A M ∧ M.ns[i]? = some z ∧ M.us[i]? = some u ∧ u[j]? = some y ∧
  M.pb[i]? = some ws ∧ ws[n]? = some v ∧ v[j]? = some x ∧ ∀ val, Da H val (winD x) → Q val H
def spIsAv (C : Addr) : Sp := fun vs H Q _ => ∃ (c : Addr) (A : CAd) (M : Cat) (z : Str) (i n : Nat) (bs : List Bool), vs = [.ref c, .str z, .int (n : Nat)] ∧ CatAt C H c A M ∧ M.ns[i]? = some z ∧ M.pr[i]? = some bs ∧ Q (.bl (bs.getD n false)) H
def avs (bs : List Bool) (i : Nat) : List V := ((List.range i).filter fun k => bs.getD k false).map fun k => V.int (k : Nat)
def spAvail (C : Addr) : Sp := fun vs H Q _ => ∃ (c : Addr) (A : CAd) (M : Cat) (z : Str) (i : Nat) (bs : List Bool), vs = [.ref c, .str z] ∧ CatAt C H c A M ∧ M.ns[i]? = some z ∧ M.pr[i]? = some bs ∧ bs.length ≤ 1000 ∧
  ∀ l H', Same H H' → H l = none → H' l = some (.lst (avs bs bs.length)) → Q (.ref l) H'
def Cat.withdraw (M : Cat) (i n : Nat) (z : Str) (bs : List Bool) : Cat := { M with pr := M.pr.set i (bs.set n false), ev := M.ev ++ [.tuple [.str "withdraw", .str z, .int (n : Nat)]] }
def spWithdraw (C : Addr) : Sp := fun vs H Q _ => ∃ (c : Addr) (A : CAd) (M : Cat) (z : Str) (i n : Nat) (bs : List Bool), vs = [.ref c, .str z, .int (n : Nat)] ∧ CatAt C H c A M ∧ M.ns[i]? = some z ∧ M.pr[i]? = some bs ∧ bs[n]? = some true ∧ M.ev.length ≤ 100000 ∧
  ∀ H', Fr (A.aE :: (A.ps ++ A.qs)) H H' → KT H H' → CatAt C H' c A (M.withdraw i n z bs) → Q .non H'
section
variable {P : Program} {w : World} {K : PySem.W.Frag} {mg : Str → Option Value} {base : Heap} {C : Addr}
theorem sc_is_module : FnScope ["self", "value"] ["self", "value"] (defScope sIsMod) :=
  ⟨rfl, rfl, rfl, by decide +kernel, rfl, by decide +kernel, by decide +kernel⟩
theorem m_is_module (F : Mf K C "is_module" "Catalog.is_module" sIsMod ["self", "value"]) (T : Txt mg) (TC : CatC K mg C) : Mn P w K mg base CX0 1 C "is_module" ["self", "value"] (spIsMod C) := by
  refine F.ok sc_is_module (fun vs H Q E h => ?_) (fun f cdv A0 outer s H vs Q E hr h => ?_)
  · obtain ⟨c, A, M, z, rfl, _⟩ := h
    rfl
  · obtain ⟨c, A, M, z, rfl, X, q⟩ := h
    have hu := hu_of hr
    refine ⟨_, (pss_one (ps_ret (pe_and (pe_callB call_isi (by rfl) T.isinstance (by decide +kernel) (pa_cons (pv 1) (pa_cons (pe_bltn (v := .ty "str") (by rfl) T.str (by decide +kernel) rfl) pa_nil))) (pe_one (pe_cmp (pc_din hu (pv 1) (pe_fl TC.cl TC.n_used_names (pv 0)))))))), ?_⟩
    obtain ⟨o, g1, g2⟩ := kz_has (z := z) (.inl X.u.h) X.lt X.uk.nd
    refine ⟨_, rfl, _, _, _, _, _, rfl, .ty _, .base (.str z), kit_ty (a := "str") (b := "str") (r := true) (by decide +kernel), _, rfl, iteT ?_⟩
    refine ⟨_, rfl, _, rfl, c, _, _, _, rfl, X.o, fl_used, _, o, rfl, g1, ?_⟩
    rw [g2]
    exact q
theorem sc_require_module : FnScope ["self", "value"] ["self", "value"] (defScope sReqMod) :=
  ⟨rfl, rfl, rfl, by decide +kernel, rfl, by decide +kernel, by decide +kernel⟩
theorem m_require_module (F : Mf K C "require_module" "Catalog.require_module" sReqMod ["self", "value"]) (TC : CatC K mg C) (M_is_module : Mn P w K mg base CX0 1 C "is_module" ["self", "value"] (spIsMod C)) : Mn P w K mg base CX0 2 C "require_module" ["self", "value"] (spReqMod C) := by
  refine F.ok sc_require_module (fun vs H Q E h => ?_) (fun f cdv A0 outer s H vs Q E hr h => ?_)
  · obtain ⟨c, A, M, z, rfl, _⟩ := h
    rfl
  · obtain ⟨c, A, M, z, rfl, X, m, q⟩ := h
    have hu := hu_of hr
    refine ⟨_, (pss_one (ps_if (pt_not (pt_val (pe_mD (pv 0) TC.cl M_is_module hr pass0 (pa_cons (pv 1) pa_nil)))) (pss_one ps_never) pss_nil)), ?_⟩
    refine ⟨_, rfl, c, _, _, rfl, X.o, rfl, _, rfl, c, A, M, z, rfl, X, _, rfl, ?_⟩
    rw [decide_eq_true m]
    exact iteF q
theorem sc_modules : FnScope ["self"] ["self"] (defScope sModules) :=
  ⟨rfl, rfl, rfl, by decide +kernel, rfl, by decide +kernel, by decide +kernel⟩
theorem m_modules (F : Mf K C "modules" "Catalog.modules" sModules ["self"]) (T : Txt mg) (TC : CatC K mg C) : Mn P w K mg base CX0 1 C "modules" ["self"] (spModules C) := by
  refine F.ok sc_modules (fun vs H Q E h => ?_) (fun f cdv A0 outer s H vs Q E hr h => ?_)
  · obtain ⟨c, A, M, rfl, _⟩ := h
    rfl
  · obtain ⟨c, A, M, rfl, X, q⟩ := h
    have hu := hu_of hr
    refine ⟨_, (pss_one (ps_ret (pe_callTy listL (by rfl) T.list (by decide +kernel) (pa_cons (pe_fl TC.cl TC.n_names (pv 0)) pa_nil)))), ?_⟩
    exact ⟨_, rfl, c, _, _, _, rfl, X.o, fl_names, A.aN, _, rfl, X.n, fun l hl => q l hl⟩
theorem sc_uses : FnScope ["self", "module"] ["self", "module"] (defScope sUses) :=
  ⟨rfl, rfl, rfl, by decide +kernel, rfl, by decide +kernel, by decide +kernel⟩
theorem m_uses (F : Mf K C "uses" "Catalog.uses" sUses ["self", "module"]) (T : Txt mg) (TC : CatC K mg C) (M_require_module : Mn P w K mg base CX0 2 C "require_module" ["self", "value"] (spReqMod C)) : Mn P w K mg base CX0 3 C "uses" ["self", "module"] (spUses C) := by
  refine F.ok sc_uses (fun vs H Q E h => ?_) (fun f cdv A0 outer s H vs Q E hr h => ?_)
  · obtain ⟨c, A, M, z, i, u, rfl, _⟩ := h
    rfl
  · obtain ⟨c, A, M, z, i, u, rfl, X, hz, hi, q⟩ := h
    have hu := hu_of hr
    refine ⟨_, (pss_cons (ps_expr (pe_mD (pv 0) TC.cl M_require_module hr pass0 (pa_cons (pv 1) pa_nil)))
      (pss_one (ps_ret (pe_callTy listT (by rfl) T.list (by decide +kernel) (pa_cons (pe_dget hu (pe_fl TC.cl TC.n_used_names (pv 0)) (pv 1) (fun _ _ => rfl)) pa_nil))))), ?_⟩
    refine ⟨_, rfl, c, _, _, rfl, X.o, rfl, _, rfl, c, A, M, z, rfl, X, List.mem_of_getElem? hz, ?_⟩
    obtain ⟨t, g, Z⟩ := X.used hz hi
    exact ⟨_, rfl, c, _, _, _, rfl, X.o, fl_used, _, rfl, _, _, rfl, g, t, _, rfl, Z.rd, fun l hl => q l hl⟩
theorem sc_versions : FnScope ["self", "module"] ["self", "module"] (defScope sVersions) :=
  ⟨rfl, rfl, rfl, by decide +kernel, rfl, by decide +kernel, by decide +kernel⟩
theorem m_versions (F : Mf K C "versions" "Catalog.versions" sVersions ["self", "module"]) (T : Txt mg) (TC : CatC K mg C) (M_require_module : Mn P w K mg base CX0 2 C "require_module" ["self", "value"] (spReqMod C)) : Mn P w K mg base CX0 3 C "versions" ["self", "module"] (spVersions C) := by
  refine F.ok sc_versions (fun vs H Q E h => ?_) (fun f cdv A0 outer s H vs Q E hr h => ?_)
  · obtain ⟨c, A, M, z, i, ws, rfl, _⟩ := h
    rfl
  · obtain ⟨c, A, M, z, i, ws, rfl, X, hz, hi, q⟩ := h
    have hu := hu_of hr
    refine ⟨_, (pss_cons (ps_expr (pe_mD (pv 0) TC.cl M_require_module hr pass0 (pa_cons (pv 1) pa_nil)))
      (pss_one (ps_ret (pe_callB lenL (by rfl) T.len PySem.boot_len (pa_cons (pe_dget hu (pe_fl TC.cl TC.n_published (pv 0)) (pv 1) (fun _ _ => rfl)) pa_nil))))), ?_⟩
    refine ⟨_, rfl, c, _, _, rfl, X.o, rfl, _, rfl, c, A, M, z, rfl, X, List.mem_of_getElem? hz, ?_⟩
    obtain ⟨p, xs, _, g, hp, da⟩ := X.pub hz hi
    refine ⟨_, rfl, c, _, _, _, rfl, X.o, fl_pub, _, rfl, _, _, rfl, g, p, _, rfl, hp, ?_⟩
    rw [da.len, List.length_map]
    exact q
theorem first_at {u : List Str} {j : Nat} {y : Str} (n : u.Nodup) (h : u[j]? = some y) : ∀ m, m < j → u[m]? ≠ some y := fun m lt e => by
  obtain ⟨hj, e1⟩ := List.getElem?_eq_some_iff.mp h
  obtain ⟨hm, e2⟩ := List.getElem?_eq_some_iff.mp e
  exact List.pairwise_iff_getElem.mp (List.nodup_iff_pairwise_ne.mp n) m j hm hj lt (e2.trans e1.symm)
theorem sc_window : FnScope ["self", "user", "used", "version"] ["self", "user", "used", "version"] (defScope sWindow) :=
  ⟨rfl, rfl, rfl, by decide +kernel, rfl, by decide +kernel, by decide +kernel⟩
theorem m_window (F : Mf K C "window" "Catalog.window" sWindow ["self", "user", "used", "version"]) (T : Txt mg) (TC : CatC K mg C) (M_require_module : Mn P w K mg base CX0 2 C "require_module" ["self", "value"] (spReqMod C)) (DV : Dn P w K mg base CX0 1 "is_version" ["value"] spIsVer) : Mn P w K mg base CX0 3 C "window" ["self", "user", "used", "version"] (spWindow C) := by
  refine F.ok sc_window (fun vs H Q E h => ?_) (fun f cdv A0 outer s H vs Q E hr h => ?_)
  · obtain ⟨c, A, M, z, y, i, j, n, u, ws, v, x, rfl, _⟩ := h
    rfl
  · obtain ⟨c, A, M, z, y, i, j, n, u, ws, v, x, rfl, X, hz, hi, hj, hw, hn, hx, q⟩ := h
    have hu := hu_of hr
    refine ⟨_, (pss_cons (ps_expr (pe_mD (pv 0) TC.cl M_require_module hr pass0 (pa_cons (pv 1) pa_nil)))
      (pss_cons (ps_if (PW.pt (pw_or (pt_not (pt_val (pe_callB call_isi (by rfl) T.isinstance (by decide +kernel) (pa_cons (pv 2) (pa_cons (pe_bltn (v := .ty "str") (by rfl) T.str (by decide +kernel) rfl) pa_nil))))) (pw_or1 (pt_cmpR notInT (pv 2) (pe_dget hu (pe_fl TC.cl TC.n_used_names (pv 0)) (pv 1) (fun _ _ => rfl)) (by rfl))))) (pss_one ps_never) pss_nil)
      (pss_cons (ps_if (PW.pt (pw_or (pt_not (pt_val (pe_cD DV hr pass0 (pa_cons (pv 3) pa_nil)))) (pw_or1 (pt_cmpR op_ge (pv 3) (pe_callB lenL (by rfl) T.len PySem.boot_len (pa_cons (pe_dget hu (pe_fl TC.cl TC.n_published (pv 0)) (pv 1) (fun _ _ => rfl)) pa_nil)) (nomark _))))) (pss_one ps_never) pss_nil)
      (pss_one (ps_ret (pe_ix ixT (pe_ix ixL (pe_dget hu (pe_fl TC.cl TC.n_published (pv 0)) (pv 1) (fun _ _ => rfl)) (pv 3) (fun _ _ => rfl)) (pe_bl PySem.F.plainAttrs_tuple PySem.F.slot_tuple_index PySem.F.type_tuple_index idxT (pe_dget hu (pe_fl TC.cl TC.n_used_names (pv 0)) (pv 1) (fun _ _ => rfl)) (pa_cons (pv 2) pa_nil)) (fun _ _ => rfl))))))), ?_⟩
    refine ⟨_, rfl, c, _, _, rfl, X.o, rfl, _, rfl, c, A, M, z, rfl, X, List.mem_of_getElem? hz, ?_⟩
    obtain ⟨t, g, Z⟩ := X.used hz hi
    obtain ⟨p, xs, _, g2, hp, da⟩ := X.pub hz hw
    have lz := (List.getElem?_eq_some_iff.mp hz).1
    obtain ⟨_, nu, _⟩ := X.uk.ok i z u hz hi
    have my : y ∈ u := List.mem_of_getElem? hj
    have ln := (List.getElem?_eq_some_iff.mp hn).1
    have lx : xs.length = ws.length := by rw [da.len, List.length_map]
    refine ⟨_, rfl, _, _, _, _, _, rfl, .ty _, .base (.str y), kit_ty (a := "str") (b := "str") (r := true) (by decide +kernel), _, rfl, iteF ?_⟩
    refine ⟨_, rfl, _, rfl, c, _, _, _, rfl, X.o, fl_used, _, rfl, _, _, rfl, g, t, _, rfl, Z.rd, rfl, strs_flat u, _, rfl, ?_⟩
    rw [if_pos rfl, inV_str, decide_eq_true my]
    refine iteF ?_
    refine ⟨_, rfl, (n : Int), rfl, by omega, _, rfl, iteF ?_⟩
    refine ⟨_, rfl, _, rfl, c, _, _, _, rfl, X.o, fl_pub, _, rfl, _, _, rfl, g2, p, _, rfl, hp, _, _, rfl, rfl, _, rfl, ?_⟩
    refine ite2 (fun h1 => by have := of_decide_eq_true h1; omega) (fun _ => ?_)
    obtain ⟨vv, hv, dv⟩ := da.get (i := n) (d := verD v) (by rw [List.getElem?_map, hn]; rfl)
    cases dv with
    | @tup a ys ds ha dd =>
      obtain ⟨val, hval, dval⟩ := dd.get (i := j) (d := winD x) (by rw [List.getElem?_map, hx]; rfl)
      refine ⟨_, rfl, c, _, _, _, rfl, X.o, fl_pub, _, rfl, _, _, rfl, g2, _, rfl, p, _, _, _, rfl, rfl, hp, atI_nat hv, ?_⟩
      refine ⟨_, rfl, c, _, _, _, rfl, X.o, fl_used, _, rfl, _, _, rfl, g, ⟨t, rfl, .inr ⟨rfl, _, Z⟩⟩, _, rfl, t, u, y, j, rfl, rfl, Z.rd, hj, first_at nu hj, ?_⟩
      exact ⟨a, _, _, _, rfl, rfl, .inl ha, atI_nat hval, q _ dval⟩
theorem sc_is_available : FnScope ["self", "module", "version"] ["self", "module", "version"] (defScope sIsAv) :=
  ⟨rfl, rfl, rfl, by decide +kernel, rfl, by decide +kernel, by decide +kernel⟩
theorem m_is_available (F : Mf K C "is_available" "Catalog.is_available" sIsAv ["self", "module", "version"]) (T : Txt mg) (TC : CatC K mg C) (M_require_module : Mn P w K mg base CX0 2 C "require_module" ["self", "value"] (spReqMod C)) (DV : Dn P w K mg base CX0 1 "is_version" ["value"] spIsVer) : Mn P w K mg base CX0 3 C "is_available" ["self", "module", "version"] (spIsAv C) := by
  refine F.ok sc_is_available (fun vs H Q E h => ?_) (fun f cdv A0 outer s H vs Q E hr h => ?_)
  · obtain ⟨c, A, M, z, i, n, bs, rfl, _⟩ := h
    rfl
  · obtain ⟨c, A, M, z, i, n, bs, rfl, X, hz, hi, q⟩ := h
    have hu := hu_of hr
    refine ⟨_, (pss_cons (ps_expr (pe_mD (pv 0) TC.cl M_require_module hr pass0 (pa_cons (pv 1) pa_nil)))
      (pss_cons (ps_if (PW.pt (pw_or (pt_not (pt_val (pe_cD DV hr pass0 (pa_cons (pv 2) pa_nil)))) (pw_or1 (pt_cmpR op_ge (pv 2) (pe_callB lenL (by rfl) T.len PySem.boot_len (pa_cons (pe_dget hu (pe_fl TC.cl TC.n_present (pv 0)) (pv 1) (fun _ _ => rfl)) pa_nil)) (nomark _))))) (pss_one (ps_ret pe_bl)) pss_nil)
      (pss_one (ps_ret (pe_ix ixL (pe_dget hu (pe_fl TC.cl TC.n_present (pv 0)) (pv 1) (fun _ _ => rfl)) (pv 2) (fun _ _ => rfl)))))), ?_⟩
    refine ⟨_, rfl, c, _, _, rfl, X.o, rfl, _, rfl, c, A, M, z, rfl, X, List.mem_of_getElem? hz, ?_⟩
    obtain ⟨p, _, g, hp⟩ := X.pres hz hi
    refine ⟨_, rfl, (n : Int), rfl, by omega, _, rfl, iteF ?_⟩
    refine ⟨_, rfl, _, rfl, c, _, _, _, rfl, X.o, fl_pres, _, rfl, _, _, rfl, g, p, _, rfl, hp, _, _, rfl, rfl, _, rfl, ?_⟩
    rw [List.length_map]
    refine ite2 (fun h1 => ?_) (fun h1 => ?_)
    · have l1 := of_decide_eq_true h1
      have e : bs.getD n false = false := by rw [List.getD_eq_getElem?_getD, List.getElem?_eq_none (by omega)]; rfl
      rw [e] at q
      exact q
    · have l1 : ¬ ((n : Int) ≥ (bs.length : Nat)) := fun z => h1 (decide_eq_true z)
      have ln : n < bs.length := by omega
      have e : bs.getD n false = bs[n] := by rw [List.getD_eq_getElem?_getD, List.getElem?_eq_getElem ln]; rfl
      rw [e] at q
      exact ⟨_, rfl, c, _, _, _, rfl, X.o, fl_pres, _, rfl, _, _, rfl, g, _, rfl, p, _, _, _, rfl, rfl, hp, atI_nat (v := .bl bs[n]) (by rw [List.getElem?_map, List.getElem?_eq_getElem ln]; rfl), q⟩
theorem avs_succ {bs : List Bool} {i : Nat} {x : Bool} (h : bs[i]? = some x) : avs bs (i + 1) = if x = true then avs bs i ++ [.int (i : Nat)] else avs bs i := by
  have e : bs.getD i false = x := by rw [List.getD_eq_getElem?_getD, h]; rfl
  unfold avs
  rw [List.range_succ, List.filter_append]
  cases x with
  | true => rw [List.filter_cons_of_pos (by rw [e]), List.filter_nil, List.map_append, if_pos rfl]; rfl
  | false => rw [List.filter_cons_of_neg (by rw [e]; decide), List.filter_nil, List.append_nil, if_neg (by decide)]
theorem avs_len (bs : List Bool) (i : Nat) : (avs bs i).length ≤ i := by
  unfold avs
  rw [List.length_map]
  exact Nat.le_trans (List.length_filter_le _ _) (by simp)
theorem sc_available : FnScope ["self", "module", "version", "here"] ["self", "module"] (defScope sAvail) :=
  ⟨rfl, rfl, rfl, by decide +kernel, rfl, by decide +kernel, by decide +kernel⟩
theorem m_available (F : Mf K C "available" "Catalog.available" sAvail ["self", "module"]) (T : Txt mg) (TC : CatC K mg C) (M_require_module : Mn P w K mg base CX0 2 C "require_module" ["self", "value"] (spReqMod C)) : Mn P w K mg base CX0 3 C "available" ["self", "module"] (spAvail C) := by
  refine F.ok sc_available (fun vs H Q E h => ?_) (fun f cdv A0 outer s H vs Q E hr h => ?_)
  · obtain ⟨c, A, M, z, i, bs, rfl, _⟩ := h
    rfl
  · obtain ⟨c, A, M, z, i, bs, rfl, X, hz, hi, lb, q⟩ := h
    have hu := hu_of hr
    refine ⟨_, (pss_cons (ps_expr (pe_mD (pv 0) TC.cl M_require_module hr pass0 (pa_cons (pv 1) pa_nil)))
      (pss_one (ps_ret (pe_lc (own := [("version", 2), ("here", 3)]) (g := (gTup K 2 (gCons (gName 2) (gCons (gName 3) gNil)))) rfl sc_available.nd (pi_enum (by rfl) T.enumerate (pa_cons (pe_dget hu (pe_fl TC.cl TC.n_present (pv 0)) (pv 1) (fun _ _ => rfl)) pa_nil)) (blkOk_by (own := [("version", 2), ("here", 3)]) (N := ["self", "module", "version", "here"]) (sc := defScope sAvail) (by decide +kernel)) (fun _ _ _ _ _ => (pg_tup rfl (pgs_cons (pg_name (i := 2) sc_available.nd rfl (Or.inl rfl)) (pgs_cons (pg_name (i := 3) sc_available.nd rfl (Or.inl rfl)) pgs_nil)))) (fun _ _ _ _ _ => (pts_one (pt_val (pv 3)))) (fun _ _ _ _ _ => (pv 2)))))), ?_⟩
    refine ⟨_, rfl, c, _, _, rfl, X.o, rfl, _, rfl, c, A, M, z, rfl, X, List.mem_of_getElem? hz, ?_⟩
    obtain ⟨p, _, g, hp⟩ := X.pres hz hi
    refine ⟨_, rfl, c, _, _, _, rfl, X.o, fl_pres, _, rfl, _, _, rfl, g, p, _, rfl, SqL.of hp, fun D hD => ?_⟩
    have npD : p ≠ D := ne_of_none hp hD
    refine lc_it walk_enum (fun i J => Same H J ∧ J D = some (.lst (avs bs i))) ⟨new_same hD, upd_same⟩ (fun i J _ h => SqL.of (h.1 _ _ hp)) ?_ ?_
    · rintro k v J J2 hk ⟨sJ, jD⟩ ⟨t, a, x, rfl, ht, rfl, ha, hx⟩
      dsimp only at ha hx
      cases ha
      rw [List.getElem?_map] at hx
      cases hb : bs[k]? with
      | none => rw [hb] at hx; cases hx
      | some bb =>
        rw [hb] at hx
        cases hx
        have nDt : D ≠ t := ne_of_none jD ht
        refine ⟨t, _, rfl, SqT.of upd_same, rfl, _, _, rfl, _, _, rfl, rfl, rfl, _, rfl, _, rfl, ?_⟩
        have e := avs_succ hb
        cases bb with
        | true =>
          rw [if_pos rfl] at e
          refine iteT ⟨_, rfl, _, by rw [upd_ne nDt]; exact jD, ?_, same_put (same_new sJ ht) hD, ?_⟩
          · have := avs_len bs k
            rw [List.length_map] at hk
            rw [sizeLine_eq]
            omega
          · rw [upd_same, e]
        | false =>
          rw [if_neg (by decide)] at e
          refine iteF ⟨same_new sJ ht, ?_⟩
          rw [upd_ne nDt, e]
          exact jD
    · rintro J ⟨sJ, jD⟩
      rw [List.length_map] at jD
      exact q D J sJ hD jD
theorem CatAt.nds {H : Hp} {c : Addr} {A : CAd} {M : Cat} (X : CatAt C H c A M) : A.ps.Nodup ∧ A.qs.Nodup ∧ (∀ p ∈ A.ps, ∀ q ∈ A.qs, p ≠ q) ∧ (∀ p ∈ A.ps, p ≠ A.aE) ∧ (∀ q ∈ A.qs, q ≠ A.aE) ∧ A.aN ∉ (A.aE :: (A.ps ++ A.qs)) := by
  have n := X.nd
  rw [List.nodup_cons, List.nodup_cons, List.nodup_append] at n
  exact ⟨n.2.2.1, n.2.2.2.1, n.2.2.2.2, fun p m e => n.2.1 (by rw [← e]; exact List.mem_append.mpr (.inl m)), fun q m e => n.2.1 (by rw [← e]; exact List.mem_append.mpr (.inr m)), n.1⟩
theorem nd_ne {l : List Addr} {i j : Nat} {p q : Addr} (n : l.Nodup) (h1 : l[i]? = some p) (h2 : l[j]? = some q) (ne : i ≠ j) : p ≠ q := fun e => by
  obtain ⟨hi, e1⟩ := List.getElem?_eq_some_iff.mp h1
  obtain ⟨hj, e2⟩ := List.getElem?_eq_some_iff.mp h2
  have P := List.pairwise_iff_getElem.mp (List.nodup_iff_pairwise_ne.mp n)
  rcases Nat.lt_or_gt_of_ne ne with lt | lt
  · exact P i j hi hj lt (by rw [e1, e2]; exact e)
  · exact P j i hj hi lt (by rw [e1, e2]; exact e.symm)
theorem set_get {α : Type} {l : List α} {i j : Nat} {x y : α} (h : (l.set i x)[j]? = some y) : (i = j ∧ y = x) ∨ (i ≠ j ∧ l[j]? = some y) := by
  rw [List.getElem?_set] at h
  by_cases e : i = j
  · rw [if_pos e] at h
    split at h
    · exact .inl ⟨e, (Option.some.inj h).symm⟩
    · cases h
  · rw [if_neg e] at h
    exact .inr ⟨e, h⟩
/-- what the catalog's lists hold changes, nothing else -/
theorem CatAt.chg {H : Hp} {c : Addr} {A : CAd} {M : Cat} (X : CatAt C H c A M) {H' : Hp} {M' : Cat} (e1 : M'.ns = M.ns) (e2 : M'.us = M.us) (f : Fr (A.aE :: (A.ps ++ A.qs)) H H') (k : KT H H')
    (lb : M'.pb.length = M.pb.length) (lr : M'.pr.length = M.pr.length)
    (pl : ∀ (i : Nat) (p : Addr) (ws : List Ver), A.ps[i]? = some p → M'.pb[i]? = some ws → ∃ xs, H' p = some (.lst xs) ∧ DaAll H' xs (ws.map verD))
    (rl : ∀ (i : Nat) (q : Addr) (bs : List Bool), A.qs[i]? = some q → M'.pr[i]? = some bs → H' q = some (.lst (bs.map V.bl)))
    (e : ∃ xs, H' A.aE = some (.lst xs) ∧ DaAll H' xs M'.ev) (ei : ∀ d ∈ M'.ev, imm d = true) : CatAt C H' c A M' := by
  have big : ∀ {a : Addr} {o : HO}, H a = some o → (∀ l, o ≠ .lst l) → H' a = some o := fun {a o} h nl => f a o (fun m => by
    have cs : a = A.aE ∨ a ∈ A.ps ∨ a ∈ A.qs := by simpa using m
    rcases cs with e | e | e
    · obtain ⟨ys, hy, _⟩ := X.e
      rw [e, hy] at h
      exact nl _ (Option.some.inj h).symm
    · obtain ⟨j, hj⟩ := List.getElem?_of_mem e
      have lj : j < M.pb.length := by rw [X.lb, ← X.lp]; exact (List.getElem?_eq_some_iff.mp hj).1
      obtain ⟨ys, hy, _⟩ := X.pl j a _ hj (List.getElem?_eq_getElem lj)
      rw [hy] at h
      exact nl _ (Option.some.inj h).symm
    · obtain ⟨j, hj⟩ := List.getElem?_of_mem e
      have lj : j < M.pr.length := by rw [X.lr, ← X.lq]; exact (List.getElem?_eq_some_iff.mp hj).1
      have hy := X.rl j a _ hj (List.getElem?_eq_getElem lj)
      rw [hy] at h
      exact nl _ (Option.some.inj h).symm) h
  refine ⟨big X.o (fun l z => by cases z), ?_, ⟨?_, ?_, ?_, fun i t l h1 h2 => (X.u.z i t l h1 (by rw [← e2]; exact h2)).keep k⟩, by rw [e1, e2]; exact X.uk, ?_, ?_, by rw [e1]; exact X.lp, by rw [e1]; exact X.lq, by rw [lb, e1]; exact X.lb, by rw [lr, e1]; exact X.lr, pl, rl, e, X.nd, ei⟩
  · rw [e1]; exact f _ _ X.nds.2.2.2.2.2 X.n
  · rw [e1]; exact big X.u.h (fun l z => by cases z)
  · rw [e1]; exact X.u.lt
  · rw [e1, e2]; exact X.u.lu
  · rw [e1]; exact big X.p (fun l z => by cases z)
  · rw [e1]; exact big X.r (fun l z => by cases z)
theorem sc_withdraw : FnScope ["self", "module", "version"] ["self", "module", "version"] (defScope sWithdraw) :=
  ⟨rfl, rfl, rfl, by decide +kernel, rfl, by decide +kernel, by decide +kernel⟩
theorem m_withdraw (F : Mf K C "withdraw" "Catalog.withdraw" sWithdraw ["self", "module", "version"]) (T : Txt mg) (TC : CatC K mg C) (M_is_available : Mn P w K mg base CX0 3 C "is_available" ["self", "module", "version"] (spIsAv C)) : Mn P w K mg base CX0 4 C "withdraw" ["self", "module", "version"] (spWithdraw C) := by
  refine F.ok sc_withdraw (fun vs H Q E h => ?_) (fun f cdv A0 outer s H vs Q E hr h => ?_)
  · obtain ⟨c, A, M, z, i, n, bs, rfl, _⟩ := h
    rfl
  · obtain ⟨c, A, M, z, i, n, bs, rfl, X, hz, hi, hn, le, q⟩ := h
    have hu := hu_of hr
    refine ⟨_, (pss_cons (ps_if (pt_not (pt_val (pe_mD (pv 0) TC.cl M_is_available hr pass0 (pa_cons (pv 1) (pa_cons (pv 2) pa_nil))))) (pss_one ps_never) pss_nil)
      (pss_cons (ps_asg pe_bl (pg_sub (pe_dget hu (pe_fl TC.cl TC.n_present (pv 0)) (pv 1) (fun _ _ => rfl)) (pv 2) set_list))
      (pss_one (ps_expr (pe_bl PySem.F.plainAttrs_list PySem.F.slot_list_append PySem.F.type_list_append mt_append (pe_fl TC.cl TC.n_events (pv 0)) (pa_cons (pe_tup (pa_cons pe_str (pa_cons (pv 1) (pa_cons (pv 2) pa_nil)))) pa_nil)))))), ?_⟩
    have ln := (List.getElem?_eq_some_iff.mp hn).1
    have eb : bs.getD n false = true := by rw [List.getD_eq_getElem?_getD, hn]; rfl
    refine ⟨_, rfl, c, _, _, rfl, X.o, rfl, _, rfl, _, rfl, c, A, M, z, i, n, bs, rfl, X, hz, hi, _, rfl, ?_⟩
    rw [eb]
    refine iteF ?_
    obtain ⟨p, hq, g, hp⟩ := X.pres hz hi
    obtain ⟨n1, n2, n3, n4, n5, n6⟩ := X.nds
    have mq := List.mem_of_getElem? hq
    obtain ⟨xs, hE, dE⟩ := X.e
    have npE := n5 p mq
    refine ⟨_, rfl, c, _, _, _, rfl, X.o, fl_pres, _, rfl, _, _, rfl, g, _, rfl, p, _, _, n, rfl, rfl, hp, (by simp [ixN, ln]), ?_⟩
    have ncp : c ≠ p := ne_of X.o hp (by intro z; cases z)
    have k1 : KT H (upd H p (.lst ((bs.map V.bl).set n (.bl false)))) := KT.put hp rfl
    have f1 : Fr (A.aE :: (A.ps ++ A.qs)) H (upd H p (.lst ((bs.map V.bl).set n (.bl false)))) := Fr.put (by simp [mq])
    refine ⟨_, rfl, c, _, _, _, rfl, (by rw [upd_ne ncp]; exact X.o), fl_ev, ⟨A.aE, rfl, .inl ⟨rfl, _, by rw [upd_ne npE.symm]; exact hE⟩⟩, _, rfl, _, rfl, (by show 3 ≤ sizeLine; decide), fun t ht => ?_⟩
    have npt : p ≠ t := ne_of_none upd_same ht
    have nEt : A.aE ≠ t := ne_of_none (show (upd H p _) A.aE = some _ by rw [upd_ne npE.symm]; exact hE) ht
    refine ⟨A.aE, xs, _, rfl, rfl, (by rw [upd_ne nEt, upd_ne npE.symm]; exact hE), ?_, ?_⟩
    · rw [dE.len, sizeLine_eq]
      omega
    have hH : H t = none := by rw [upd_ne npt.symm] at ht; exact ht
    have k2 : KT H (upd (upd (upd H p (.lst ((bs.map V.bl).set n (.bl false)))) t (.tup [.str "withdraw", .str z, .int (n : Nat)])) A.aE (.lst (xs ++ [.ref t]))) := k1.trans ((KT.new ht).trans (KT.put (o := .lst xs) (by rw [upd_ne nEt, upd_ne npE.symm]; exact hE) rfl))
    have f2 : Fr (A.aE :: (A.ps ++ A.qs)) H (upd (upd (upd H p (.lst ((bs.map V.bl).set n (.bl false)))) t (.tup [.str "withdraw", .str z, .int (n : Nat)])) A.aE (.lst (xs ++ [.ref t]))) := f1.trans ((Fr.of (new_same ht)).trans (Fr.put (by simp)))
    refine q _ f2 k2 (X.chg rfl rfl f2 k2 rfl (by simp [Cat.withdraw]) ?_ ?_ ⟨xs ++ [.ref t], upd_same, ?_⟩ ?_)
    · intro j pj ws h1 h2
      obtain ⟨ys, hy, dy⟩ := X.pl j pj ws h1 h2
      refine ⟨ys, ?_, dy.keep k2 (vers_imm ws)⟩
      have m := List.mem_of_getElem? h1
      rw [upd_ne (n4 pj m), upd_ne (ne_of_none hy hH), upd_ne (n3 pj m p mq)]
      exact hy
    · intro j qj bj h1 h2
      have m := List.mem_of_getElem? h1
      rcases set_get h2 with ⟨rfl, rfl⟩ | ⟨ne, h2⟩
      · rw [hq] at h1
        cases h1
        rw [upd_ne npE, upd_ne npt, upd_same, List.map_set]
      · have hy := X.rl j qj bj h1 h2
        rw [upd_ne (n5 qj m), upd_ne (ne_of_none hy hH), upd_ne (nd_ne n2 h1 hq ne.symm)]
        exact hy
    · refine (dE.keep k2 (immAll_iff.mpr X.ei)).snoc (.tup (xs := [.str "withdraw", .str z, .int (n : Nat)]) ?_ (.cons (.str _) (.cons (.str _) (.cons (.int _) .nil))))
      rw [upd_ne nEt.symm, upd_same]
    · intro d hd
      rcases List.mem_append.mp hd with hd | hd
      · exact X.ei d hd
      · rw [List.mem_singleton.mp hd]; rfl
end
end N23
set_option maxHeartbeats 1000000
namespace N23
open PySem PySem.Spec PyProof.Rows L2 G
/-- the first use in which the window falls -/
def fallIn : List Str → Ver → Ver → Option Str
  | y :: u, a :: l, b :: w => if risesB a b = true then fallIn u l w else some y
  | _, _, _ => none
def fallOf (u : List Str) (wss : List Ver) (ws : Ver) : Option Str := match wss.getLast? with
  | none => none
  | some l => fallIn u l ws
def VerOk (u : List Str) (v : Ver) : Prop := v.length = u.length ∧ ∀ x ∈ v, WinOk x
def spReqRis (C CN : Addr) : Sp := fun vs H Q E => ∃ (c : Addr) (A : CAd) (M : Cat) (z : Str) (i : Nat) (u : List Str) (wss : List Ver) (ls : Addr) (xs : List V) (ws : Ver), vs = [.ref c, .str z, .ref ls] ∧ CatAt C H c A M ∧ M.ns[i]? = some z ∧ M.us[i]? = some u ∧
  M.pb[i]? = some wss ∧ H ls = some (.lst xs) ∧ DaAll H xs (ws.map winD) ∧ VerOk u ws ∧ (∀ v ∈ wss, VerOk u v) ∧ (fallOf u wss ws = none → ∀ H', Same H H' → Q .non H') ∧
  ∀ y, fallOf u wss ws = some y → ∀ d H', Same H H' → H d = none → H' d = some (.xd [("used", .str y), ("user", .str z)]) → E (.ref CN) (some d) H'
def evD (z : Str) (ws : Ver) : PyData := .tuple [.str "publish", .str z, verD ws]
def Cat.publish (M : Cat) (i : Nat) (z : Str) (wss : List Ver) (bs : List Bool) (ws : Ver) : Cat := { M with pb := M.pb.set i (wss ++ [ws]), pr := M.pr.set i (bs ++ [true]), ev := M.ev ++ [evD z ws] }
def spPublish (C CN : Addr) : Sp := fun vs H Q E => ∃ (c : Addr) (A : CAd) (M : Cat) (z : Str) (i : Nat) (u : List Str) (wss : List Ver) (bs : List Bool) (ls : Addr) (xs : List V) (ws : Ver), vs = [.ref c, .str z, .ref ls] ∧ CatAt C H c A M ∧ M.ns[i]? = some z ∧ M.us[i]? = some u ∧
  M.pb[i]? = some wss ∧ M.pr[i]? = some bs ∧ H ls = some (.lst xs) ∧ ls ∉ (A.aE :: (A.ps ++ A.qs)) ∧ DaAll H xs (ws.map winD) ∧ VerOk u ws ∧ (∀ v ∈ wss, VerOk u v) ∧ wss.length < 16 ∧ bs.length < 1000 ∧ M.ev.length ≤ 100000 ∧
  (fallOf u wss ws = none → ∀ H', Fr (A.aE :: (A.ps ++ A.qs)) H H' → KT H H' → CatAt C H' c A (M.publish i z wss bs ws) → Q (.int (wss.length : Nat)) H') ∧
  ∀ y, fallOf u wss ws = some y → ∀ d H', Same H H' → H d = none → H' d = some (.xd [("used", .str y), ("user", .str z)]) → E (.ref CN) (some d) H'
theorem da_last {H : Hp} {xs : List V} {wss : List Ver} {l : Ver} (d : DaAll H xs (wss.map verD)) (h : wss.getLast? = some l) : ∃ v, atI xs (-1) = some v ∧ Da H v (verD l) := by
  have ne : wss ≠ [] := fun z => by rw [z] at h; cases h
  have ll : 0 < wss.length := List.length_pos_iff.mpr ne
  have e : wss[wss.length - 1]? = some l := by rw [← List.getLast?_eq_getElem?]; exact h
  obtain ⟨v, hv, dv⟩ := d.get (i := wss.length - 1) (d := verD l) (by rw [List.getElem?_map, e]; rfl)
  refine ⟨v, ?_, dv⟩
  have lx : xs.length = wss.length := by rw [d.len, List.length_map]
  have hx : 0 < xs.length := by omega
  obtain ⟨ys, y, rfl⟩ : ∃ ys y, xs = ys ++ [y] := by
    have ne2 : xs ≠ [] := List.length_pos_iff.mp hx
    exact ⟨xs.dropLast, xs.getLast ne2, (List.dropLast_concat_getLast ne2).symm⟩
  have e3 : wss.length - 1 = ys.length := by simp at lx; omega
  rw [e3, List.getElem?_append_right (Nat.le_refl _)] at hv
  have e4 : y = v := by simpa using hv
  rw [← e4]
  exact atI_last ys y
theorem ver_at {H : Hp} {v : V} {l : Ver} (d : Da H v (verD l)) : ∃ a ys, v = .ref a ∧ H a = some (.tup ys) ∧ DaAll H ys (l.map winD) := by
  cases d with
  | @tup a ys ds h t => exact ⟨a, ys, rfl, h, t⟩
section
variable {P : Program} {w : World} {K : PySem.W.Frag} {mg : Str → Option Value} {base : Heap} {C CN : Addr}
theorem sc_require_rising : FnScope ["self", "module", "windows", "latest", "used", "first", "second"] ["self", "module", "windows"] (defScope sReqRis) :=
  ⟨rfl, rfl, rfl, by decide +kernel, rfl, by decide +kernel, by decide +kernel⟩
theorem m_require_rising (F : Mf K C "require_rising" "Catalog.require_rising" sReqRis ["self", "module", "windows"]) (T : Txt mg) (TC : CatC K mg C) (XN : XV2 P w K mg base "NotRising" CN "user" "used") (DR : Dn P w K mg base CX0 4 "rises" ["first", "second"] spRises) : Mn P w K mg base (L2.CX P w) 5 C "require_rising" ["self", "module", "windows"] (spReqRis C CN) := by
  refine F.okX sc_require_rising (fun vs H Q E h => ?_) (fun f cdv A0 outer s H vs Q E hr h => ?_)
  · obtain ⟨c, A, M, z, i, u, wss, ls, xs, ws, rfl, _⟩ := h
    rfl
  · obtain ⟨c, A, M, z, i, u, wss, ls, xs, ws, rfl, X, hz, hi, hb, hl, da, vo, vs, q, qe⟩ := h
    have hu := hu_of hr
    refine ⟨_, (pss_cons (ps_if (pt_cmpR op_eq (pe_callB lenL (by rfl) T.len PySem.boot_len (pa_cons (pe_dget hu (pe_fl TC.cl TC.n_published (pv 0)) (pv 1) (fun _ _ => rfl)) pa_nil)) pe_int (nomark _)) (pss_one ps_retN) pss_nil)
      (pss_cons (ps_set (i := 3) sc_require_rising.nd rfl (Or.inl rfl) (pe_ix ixL (pe_dget hu (pe_fl TC.cl TC.n_published (pv 0)) (pv 1) (fun _ _ => rfl)) (pe_un un_neg pe_int) (fun _ _ => rfl)))
      (pss_one (ps_for (passes_of rfl) rfl (pi_zip3 (by rfl) T.zip (pa_cons (pe_dget hu (pe_fl TC.cl TC.n_used_names (pv 0)) (pv 1) (fun _ _ => rfl)) (pa_cons (pv 3) (pa_cons (pv 2) pa_nil)))) (pg_tup rfl (pgs_cons (pg_name (i := 4) sc_require_rising.nd rfl (Or.inl rfl)) (pgs_cons (pg_name (i := 5) sc_require_rising.nd rfl (Or.inl rfl)) (pgs_cons (pg_name (i := 6) sc_require_rising.nd rfl (Or.inl rfl)) pgs_nil)))) (pss_one (ps_if (pt_not (pt_val (pe_cD DR hr pass0 (pa_cons (pv 5) (pa_cons (pv 6) pa_nil))))) (pss_one (ps_raise2 rfl XN hr (takes_of rfl rfl rfl rfl) (pv 1) (pv 4))) pss_nil)))))), ?_⟩
    obtain ⟨p, ps, _, g, hp, dp⟩ := X.pub hz hb
    obtain ⟨t, g2, Z⟩ := X.used hz hi
    have lx : ps.length = wss.length := by rw [dp.len, List.length_map]
    refine ⟨_, rfl, c, _, _, _, rfl, X.o, fl_pub, _, rfl, _, _, rfl, g, p, _, rfl, hp, rfl, _, rfl, ?_⟩
    cases hL : wss.getLast? with
    | none =>
      have e : wss = [] := List.getLast?_eq_none_iff.mp hL
      have e2 : ps = [] := List.eq_nil_of_length_eq_zero (by rw [lx, e]; rfl)
      rw [e2]
      refine iteT ?_
      exact q (by simp [fallOf, hL]) H (.refl H)
    | some l =>
      have ne : wss ≠ [] := fun z => by rw [z] at hL; cases hL
      have ll : 0 < wss.length := List.length_pos_iff.mpr ne
      rw [show decide (V.int (ps.length : Nat) = V.int 0) = false from decide_eq_false (fun e => by have := V.int.inj e; omega)]
      refine iteF ?_
      obtain ⟨v, hv, dv⟩ := da_last dp hL
      obtain ⟨a, ys, rfl, ha, dy⟩ := ver_at dv
      refine ⟨_, rfl, c, _, _, _, rfl, X.o, fl_pub, _, rfl, _, _, rfl, g, _, rfl, p, _, _, _, rfl, rfl, hp, hv, ?_⟩
      refine ⟨_, rfl, c, _, _, _, rfl, X.o, fl_used, _, rfl, _, _, rfl, g2, _, rfl, _, rfl, t, a, ls, _, _, _, rfl, .inl Z.rd, SqT.of ha, SqL.of hl, ?_⟩
      have vl := vs l (List.mem_of_getLast? hL)
      have l1 : ys.length = u.length := by rw [dy.len, List.length_map, vl.1]
      have l2 : xs.length = u.length := by rw [da.len, List.length_map, vo.1]
      refine for_it (walk_zip3 (xs := u.map V.str) (ys := ys) (zs := xs) (n := u.length) (by rw [List.length_map]; omega))
        (fun k σ J => Same H J ∧ (∃ x y w0, σ = [some (.ref c), some (.str z), some (.ref ls), some (.ref a), x, y, w0]) ∧ fallOf u wss ws = fallIn (u.drop k) (l.drop k) (ws.drop k))
        ⟨.refl H, ⟨_, _, _, rfl⟩, by simp [fallOf, hL]⟩ (fun k σ J _ h => ⟨.inl (Z.same h.1).rd, SqT.of (h.1 _ _ ha), SqL.of (h.1 _ _ hl)⟩) ?_ ?_
      · rintro k v σ J J2 hk ⟨sJ, ⟨x, y, w0, rfl⟩, fe⟩ ⟨T0, e1, e2, e3, rfl, hT, rfl, g1, g3, g4⟩
        rw [List.getElem?_map] at g1
        have hu1 : u[k]? = some u[k] := List.getElem?_eq_getElem hk
        rw [hu1] at g1
        cases g1
        obtain ⟨d2, hd2, dd2⟩ := dy.get' g3
        obtain ⟨d3, hd3, dd3⟩ := da.get' g4
        have kl : k < l.length := by rw [vl.1]; exact hk
        have kw : k < ws.length := by rw [vo.1]; exact hk
        rw [List.getElem?_map, List.getElem?_eq_getElem kl] at hd2
        rw [List.getElem?_map, List.getElem?_eq_getElem kw] at hd3
        cases hd2
        cases hd3
        have s2 := same_new (o := .tup [.str u[k], e2, e3]) sJ hT
        refine ⟨T0, _, rfl, SqT.of upd_same, rfl, _, _, rfl, _, _, rfl, _, _, rfl, rfl, ?_⟩
        refine ⟨_, rfl, _, rfl, e2, e3, l[k], ws[k], rfl, dd2.mono s2, dd3.mono s2, vl.2 _ (List.getElem_mem _), vo.2 _ (List.getElem_mem _), _, rfl, ?_⟩
        rw [List.drop_eq_getElem_cons hk, List.drop_eq_getElem_cons kl, List.drop_eq_getElem_cons kw, fallIn] at fe
        cases hr2 : risesB l[k] ws[k] with
        | true =>
          rw [hr2, if_pos rfl] at fe
          exact iteF ⟨s2, ⟨_, _, _, rfl⟩, fe⟩
        | false =>
          rw [hr2, if_neg (by decide)] at fe
          refine iteT ⟨_, rfl, _, rfl, made_go2 fun d hd => ?_⟩
          exact qe _ fe d _ (same_new s2 hd) (same_none s2 hd) upd_same
      · rintro σ J ⟨sJ, _, fe⟩
        rw [List.drop_of_length_le (Nat.le_refl _)] at fe
        exact q fe J sJ
theorem sc_publish : FnScope ["self", "module", "windows", "number"] ["self", "module", "windows"] (defScope sPublish) :=
  ⟨rfl, rfl, rfl, by decide +kernel, rfl, by decide +kernel, by decide +kernel⟩
theorem m_publish (F : Mf K C "publish" "Catalog.publish" sPublish ["self", "module", "windows"]) (T : Txt mg) (TC : CatC K mg C) (CT : Cst mg) (M_require_module : Mn P w K mg base CX0 2 C "require_module" ["self", "value"] (spReqMod C)) (M_require_rising : Mn P w K mg base (L2.CX P w) 5 C "require_rising" ["self", "module", "windows"] (spReqRis C CN)) (DW : Dn P w K mg base CX0 3 "require_windows" ["value"] spReqWins) : Mn P w K mg base (L2.CX P w) 6 C "publish" ["self", "module", "windows"] (spPublish C CN) := by
  obtain ⟨tv, gV⟩ := CT.mv
  refine F.okX sc_publish (fun vs H Q E h => ?_) (fun f cdv A0 outer s H vs Q E hr h => ?_)
  · obtain ⟨c, A, M, z, i, u, wss, bs, ls, xs, ws, rfl, _⟩ := h
    rfl
  · obtain ⟨c, A, M, z, i, u, wss, bs, ls, xs, ws, rfl, X, hz, hi, hb, hr0, hl, nls, da, vo, vs, l16, lbs, lev, q, qe⟩ := h
    have hu := hu_of hr
    refine ⟨_, (pss_cons (ps_expr (pe_mD (pv 0) TC.cl M_require_module hr pass0 (pa_cons (pv 1) pa_nil)))
      (pss_cons (ps_if (PW.pt (pw_or (pt_not (pt_val (pe_callB call_isi (by rfl) T.isinstance (by decide +kernel) (pa_cons (pv 2) (pa_cons (pe_bltn (v := .ty "list") (by rfl) T.list (by decide +kernel) rfl) pa_nil))))) (pw_or1 (pt_cmpR op_ne (pe_callB lenL (by rfl) T.len PySem.boot_len (pa_cons (pv 2) pa_nil)) (pe_callB lenT (by rfl) T.len PySem.boot_len (pa_cons (pe_dget hu (pe_fl TC.cl TC.n_used_names (pv 0)) (pv 1) (fun _ _ => rfl)) pa_nil)) (nomark _))))) (pss_one ps_never) pss_nil)
      (pss_cons (ps_expr (pe_cD DW hr pass0 (pa_cons (pv 2) pa_nil)))
      (pss_cons (ps_expr (pe_mD (pv 0) TC.cl M_require_rising hr (passes_call (takes_of rfl rfl rfl rfl) (fun _ _ _ _ h => h)) (pa_cons (pv 1) (pa_cons (pv 2) pa_nil))))
      (pss_cons (ps_set (i := 3) sc_publish.nd rfl (Or.inl rfl) (pe_callB lenL (by rfl) T.len PySem.boot_len (pa_cons (pe_dget hu (pe_fl TC.cl TC.n_published (pv 0)) (pv 1) (fun _ _ => rfl)) pa_nil)))
      (pss_cons (ps_if (pt_cmpR op_ge (pv 3) (pe_glob (v := .int 16) rfl gV ⟨_, rfl⟩) (nomark _)) (pss_one ps_never) pss_nil)
      (pss_cons (ps_expr (pe_bl PySem.F.plainAttrs_list PySem.F.slot_list_append PySem.F.type_list_append mt_append (pe_dget hu (pe_fl TC.cl TC.n_published (pv 0)) (pv 1) (fun _ _ => rfl)) (pa_cons (pe_callTy tupL (by rfl) T.tuple (by decide +kernel) (pa_cons (pv 2) pa_nil)) pa_nil)))
      (pss_cons (ps_expr (pe_bl PySem.F.plainAttrs_list PySem.F.slot_list_append PySem.F.type_list_append mt_append (pe_dget hu (pe_fl TC.cl TC.n_present (pv 0)) (pv 1) (fun _ _ => rfl)) (pa_cons pe_bl pa_nil)))
      (pss_cons (ps_expr (pe_bl PySem.F.plainAttrs_list PySem.F.slot_list_append PySem.F.type_list_append mt_append (pe_fl TC.cl TC.n_events (pv 0)) (pa_cons (pe_tup (pa_cons pe_str (pa_cons (pv 1) (pa_cons (pe_callTy tupL (by rfl) T.tuple (by decide +kernel) (pa_cons (pv 2) pa_nil)) pa_nil)))) pa_nil)))
      (pss_one (ps_ret (pv 3)))))))))))), ?_⟩
    refine ⟨_, rfl, c, _, _, rfl, X.o, rfl, _, rfl, c, A, M, z, rfl, X, List.mem_of_getElem? hz, ?_⟩
    obtain ⟨t, g2, Z⟩ := X.used hz hi
    have lx : xs.length = u.length := by rw [da.len, List.length_map, vo.1]
    have lu := X.uk.len hi
    refine ⟨_, rfl, _, _, _, _, _, rfl, .ty _, .base (.lst hl), kit_ty (a := "list") (b := "list") (r := true) (by decide +kernel), _, rfl, iteF ?_⟩
    refine ⟨_, rfl, ls, _, rfl, hl, _, rfl, c, _, _, _, rfl, X.o, fl_used, _, rfl, _, _, rfl, g2, t, _, rfl, Z.rd, rfl, _, rfl, ?_⟩
    rw [show (!decide (V.int (xs.length : Nat) = V.int ((u.map V.str).length : Nat))) = false from by rw [List.length_map, lx, decide_eq_true rfl]; rfl]
    refine iteF ?_
    refine ⟨_, rfl, ls, xs, ws, rfl, hl, da, vo.2, by rw [vo.1]; omega, fun H1 s1 => ?_⟩
    have X1 := X.same s1
    have hl1 := s1 _ _ hl
    have da1 := da.mono s1
    refine ⟨_, rfl, c, _, _, rfl, X1.o, rfl, _, rfl, _, rfl, c, A, M, z, i, u, wss, ls, xs, ws, rfl, X1, hz, hi, hb, hl1, da1, vo, vs, fun fn H2 s2 => ?_, fun y fy d H2 s2 hd hx => ?_⟩
    · have s12 := same_trans s1 s2
      have X2 := X.same s12
      have hl2 := s12 _ _ hl
      have da2 := da.mono s12
      obtain ⟨p, ps, ip, g, hp, dp⟩ := X2.pub hz hb
      obtain ⟨r, ir, gr, hr2⟩ := X2.pres hz hr0
      obtain ⟨n1, n2, n3, n4, n5, n6⟩ := X2.nds
      obtain ⟨es, hE, dE⟩ := X2.e
      have mp := List.mem_of_getElem? ip
      have mr := List.mem_of_getElem? ir
      have npr := n3 p mp r mr
      have npE := n4 p mp
      have nrE := n5 r mr
      have lps : ps.length = wss.length := by rw [dp.len, List.length_map]
      refine ⟨_, rfl, c, _, _, _, rfl, X2.o, fl_pub, _, rfl, _, _, rfl, g, p, _, rfl, hp, ?_⟩
      refine ⟨_, rfl, _, _, rfl, rfl, _, rfl, ?_⟩
      refine ite2 (fun h1 => by have := of_decide_eq_true h1; omega) (fun _ => ?_)
      have ncp : c ≠ p := ne_of X2.o hp (by intro z; cases z)
      have ncr : c ≠ r := ne_of X2.o hr2 (by intro z; cases z)
      have ncE : c ≠ A.aE := ne_of X2.o hE (by intro z; cases z)
      have nRp : A.aR ≠ p := ne_of X2.r hp (by intro z; cases z)
      have nlp : ls ≠ p := fun e => nls (by rw [e]; simp [mp])
      have nlr : ls ≠ r := fun e => nls (by rw [e]; simp [mr])
      have nlE : ls ≠ A.aE := fun e => nls (by rw [e]; simp)
      -- published
      refine ⟨_, rfl, c, _, _, _, rfl, X2.o, fl_pub, _, rfl, _, _, rfl, g, ⟨p, rfl, .inl ⟨rfl, _, hp⟩⟩, _, rfl, ls, _, rfl, hl2, fun t1 ht1 => ?_⟩
      have npt : p ≠ t1 := ne_of_none hp ht1
      have nrt : r ≠ t1 := ne_of_none hr2 ht1
      have nEt : A.aE ≠ t1 := ne_of_none hE ht1
      have nct : c ≠ t1 := ne_of_none X2.o ht1
      have nlt : ls ≠ t1 := ne_of_none hl2 ht1
      have nRt : A.aR ≠ t1 := ne_of_none X2.r ht1
      refine ⟨p, ps, _, rfl, rfl, (by rw [upd_ne npt]; exact hp), (by rw [lps, sizeLine_eq]; omega), ?_⟩
      have k3 : KT H2 (upd (upd H2 t1 (.tup xs)) p (.lst (ps ++ [.ref t1]))) := (KT.new ht1).trans (KT.put (o := .lst ps) (by rw [upd_ne npt]; exact hp) rfl)
      have f3 : Fr (A.aE :: (A.ps ++ A.qs)) H2 (upd (upd H2 t1 (.tup xs)) p (.lst (ps ++ [.ref t1]))) := (Fr.of (new_same ht1)).trans (Fr.put (by simp [mp]))
      have c3 : (upd (upd H2 t1 (.tup xs)) p (.lst (ps ++ [.ref t1]))) c = some (.ins C A.dx (flds A)) := by rw [upd_ne ncp, upd_ne nct]; exact X2.o
      have p3 : (upd (upd H2 t1 (.tup xs)) p (.lst (ps ++ [.ref t1]))) p = some (.lst (ps ++ [.ref t1])) := upd_same
      have r3 : (upd (upd H2 t1 (.tup xs)) p (.lst (ps ++ [.ref t1]))) r = some (.lst (bs.map V.bl)) := by rw [upd_ne npr.symm, upd_ne nrt]; exact hr2
      have E3 : (upd (upd H2 t1 (.tup xs)) p (.lst (ps ++ [.ref t1]))) A.aE = some (.lst es) := by rw [upd_ne npE.symm, upd_ne nEt]; exact hE
      have l3 : (upd (upd H2 t1 (.tup xs)) p (.lst (ps ++ [.ref t1]))) ls = some (.lst xs) := by rw [upd_ne nlp, upd_ne nlt]; exact hl2
      have t3 : (upd (upd H2 t1 (.tup xs)) p (.lst (ps ++ [.ref t1]))) t1 = some (.tup xs) := by rw [upd_ne npt.symm, upd_same]
      have R3 : (upd (upd H2 t1 (.tup xs)) p (.lst (ps ++ [.ref t1]))) A.aR = some (.dK (kz M.ns (A.qs.map V.ref))) := by rw [upd_ne nRp, upd_ne nRt]; exact X2.r
      have o3 : ∀ q ∈ A.ps ++ A.qs, q ≠ p → ∀ o, H2 q = some o → (upd (upd H2 t1 (.tup xs)) p (.lst (ps ++ [.ref t1]))) q = some o := fun q _ ne o h => by rw [upd_ne ne, upd_ne (ne_of_none h ht1)]; exact h
      generalize upd (upd H2 t1 (.tup xs)) p (.lst (ps ++ [.ref t1])) = H3 at k3 f3 c3 p3 r3 E3 l3 t3 R3 o3
      -- present
      have gr3 : DGet H3 A.aR (.str z) (some (.ref r)) := kz_dget (.inl R3) X.lqs X.uk.nd hz (by rw [List.getElem?_map, ir]; rfl)
      refine ⟨_, rfl, c, _, _, _, rfl, c3, fl_pres, _, rfl, _, _, rfl, gr3, ⟨r, rfl, .inl ⟨rfl, _, r3⟩⟩, r, _, _, rfl, rfl, r3, (by rw [List.length_map, sizeLine_eq]; omega), ?_⟩
      have k4 : KT H2 (upd H3 r (.lst (bs.map V.bl ++ [.bl true]))) := k3.trans (KT.put r3 rfl)
      have f4 : Fr (A.aE :: (A.ps ++ A.qs)) H2 (upd H3 r (.lst (bs.map V.bl ++ [.bl true]))) := f3.trans (Fr.put (by simp [mr]))
      -- events
      have c4 : (upd H3 r (.lst (bs.map V.bl ++ [.bl true]))) c = some (.ins C A.dx (flds A)) := by rw [upd_ne ncr]; exact c3
      have E4 : (upd H3 r (.lst (bs.map V.bl ++ [.bl true]))) A.aE = some (.lst es) := by rw [upd_ne nrE.symm]; exact E3
      have l4 : (upd H3 r (.lst (bs.map V.bl ++ [.bl true]))) ls = some (.lst xs) := by rw [upd_ne nlr]; exact l3
      have t4 : (upd H3 r (.lst (bs.map V.bl ++ [.bl true]))) t1 = some (.tup xs) := by rw [upd_ne nrt.symm]; exact t3
      have p4 : (upd H3 r (.lst (bs.map V.bl ++ [.bl true]))) p = some (.lst (ps ++ [.ref t1])) := by rw [upd_ne npr]; exact p3
      have r4 : (upd H3 r (.lst (bs.map V.bl ++ [.bl true]))) r = some (.lst (bs.map V.bl ++ [.bl true])) := upd_same
      have o4 : ∀ q ∈ A.ps ++ A.qs, q ≠ p → q ≠ r → ∀ o, H2 q = some o → (upd H3 r (.lst (bs.map V.bl ++ [.bl true]))) q = some o := fun q m n1 n2 o h => by rw [upd_ne n2]; exact o3 q m n1 o h
      generalize upd H3 r (.lst (bs.map V.bl ++ [.bl true])) = H4 at k4 f4 c4 E4 l4 t4 p4 r4 o4
      refine ⟨_, rfl, c, _, _, _, rfl, c4, fl_ev, ⟨A.aE, rfl, .inl ⟨rfl, _, E4⟩⟩, _, rfl, _, rfl, ls, _, rfl, l4, fun t2 ht2 => ?_⟩
      refine ⟨(by show 3 ≤ sizeLine; decide), fun t5 ht5 => ?_⟩
      have nE2 : A.aE ≠ t2 := ne_of_none E4 ht2
      have E5 : (upd H4 t2 (.tup xs)) A.aE = some (.lst es) := by rw [upd_ne nE2]; exact E4
      have nE5 : A.aE ≠ t5 := ne_of_none E5 ht5
      have n25 : t2 ≠ t5 := ne_of_none upd_same ht5
      have h5 : H4 t5 = none := by rw [upd_ne n25.symm] at ht5; exact ht5
      refine ⟨A.aE, es, _, rfl, rfl, (by rw [upd_ne nE5]; exact E5), (by rw [dE.len, sizeLine_eq]; omega), ?_⟩
      refine ⟨_, rfl, ?_⟩
      rw [lps]
      have k5 : KT H2 (upd (upd (upd H4 t2 (.tup xs)) t5 (.tup [.str "publish", .str z, .ref t2])) A.aE (.lst (es ++ [.ref t5]))) := k4.trans ((KT.new ht2).trans ((KT.new ht5).trans (KT.put (o := .lst es) (by rw [upd_ne nE5]; exact E5) rfl)))
      have f5 : Fr (A.aE :: (A.ps ++ A.qs)) H2 (upd (upd (upd H4 t2 (.tup xs)) t5 (.tup [.str "publish", .str z, .ref t2])) A.aE (.lst (es ++ [.ref t5]))) := f4.trans ((Fr.of (new_same ht2)).trans ((Fr.of (new_same ht5)).trans (Fr.put (by simp))))
      have fin : ∀ q o, q ≠ A.aE → H4 q = some o → (upd (upd (upd H4 t2 (.tup xs)) t5 (.tup [.str "publish", .str z, .ref t2])) A.aE (.lst (es ++ [.ref t5]))) q = some o := fun q o n h => by
        rw [upd_ne n, upd_ne (ne_of_none h h5), upd_ne (ne_of_none h ht2)]; exact h
      refine q fn _ ((Fr.of s12).trans f5) ((KT.of s12).trans k5) (X2.chg rfl rfl f5 k5 (by simp [Cat.publish]) (by simp [Cat.publish]) ?_ ?_ ⟨es ++ [.ref t5], upd_same, ?_⟩ ?_)
      · intro j pj wj h1 h2
        have m := List.mem_of_getElem? h1
        rcases set_get h2 with ⟨rfl, rfl⟩ | ⟨ne, h2⟩
        · rw [ip] at h1
          cases h1
          refine ⟨_, fin _ _ npE p4, ?_⟩
          rw [List.map_append]
          refine (dp.keep k5 (vers_imm wss)).snoc (.tup (fin _ _ nEt.symm t4) (da2.keep k5 ?_))
          rw [immAll_iff]
          intro d hd
          obtain ⟨w1, _, rfl⟩ := List.mem_map.mp hd
          exact win_imm w1
        · obtain ⟨ys, hy, dy⟩ := X2.pl j pj wj h1 h2
          exact ⟨ys, fin _ _ (n4 pj m) (o4 pj (by simp [m]) (nd_ne n1 h1 ip ne.symm) (n3 pj m r mr) _ hy), dy.keep k5 (vers_imm wj)⟩
      · intro j qj bj h1 h2
        have m := List.mem_of_getElem? h1
        rcases set_get h2 with ⟨rfl, rfl⟩ | ⟨ne, h2⟩
        · rw [ir] at h1
          cases h1
          rw [List.map_append]
          exact fin _ _ nrE r4
        · exact fin _ _ (n5 qj m) (o4 qj (by simp [m]) (n3 p mp qj m).symm (nd_ne n2 h1 ir ne.symm) _ (X2.rl j qj bj h1 h2))
      · refine (dE.keep k5 (immAll_iff.mpr X.ei)).snoc ?_
        refine .tup (xs := [.str "publish", .str z, .ref t2]) (by rw [upd_ne nE5.symm, upd_same]) (.cons (.str _) (.cons (.str _) (.cons (.tup (xs := xs) (by rw [upd_ne nE2.symm, upd_ne n25, upd_same]) (da2.keep k5 ?_)) .nil)))
        rw [immAll_iff]
        intro d hd
        obtain ⟨w1, _, rfl⟩ := List.mem_map.mp hd
        exact win_imm w1
      · intro d hd
        rcases List.mem_append.mp hd with hd | hd
        · exact X.ei d hd
        · rw [List.mem_singleton.mp hd]
          show immAll [.str "publish", .str z, verD ws] = true
          simp [immAll, imm, ver_imm]
    · exact qe y fy d H2 (same_trans s1 s2) (same_none s1 hd) hx
end
end N23
set_option maxHeartbeats 1000000
namespace N23
open PySem PySem.Spec PyProof.Rows L2 G
def spClone (C : Addr) : Sp := fun vs H Q _ => ∃ (c : Addr) (A : CAd) (M : Cat), vs = [.ref c] ∧ CatAt C H c A M ∧
  ∀ (c2 : Addr) (A2 : CAd) (H' : Hp), Same H H' → CatAt C H' c2 A2 M → (∀ q ∈ dom c2 A2, H q = none) → Q (.ref c2) H'
theorem g1 {A : CAd} {v1 v2 v3 : Addr} : putF "events" (.ref v3) (putF "present" (.ref v2) (putF "published" (.ref v1) (flds A))) = flds { A with aP := v1, aR := v2, aE := v3 } := rfl
/-- new copies of the lists of a dict of lists, as far as the i-th -/
structure Cps (H0 J : Hp) (D : Addr) (ns : List Str) (ps : List Addr) (i : Nat) (f : Nat → Hp → V → Prop) : Prop where
  l : ps.length = i
  n : ps.Nodup
  d : D ∉ ps
  o : ∀ p ∈ ps, H0 p = none
  h : ∀ (j : Nat) (p : Addr), ps[j]? = some p → f j J (.ref p)
  k : J D = some (.dK (kz (ns.take i) (ps.map V.ref)))
theorem Cps.next {H0 J J2 : Hp} {D p : Addr} {ns : List Str} {ps : List Addr} {i : Nat} {f : Nat → Hp → V → Prop} {z : Str} (c : Cps H0 J D ns ps i f) (nd : ns.Nodup) (hz : ns[i]? = some z) (h0 : H0 p = none) (np : p ∉ ps) (nD : D ≠ p)
    (mono : ∀ j q, f j J (.ref q) → f j J2 (.ref q)) (hp : f i J2 (.ref p)) (hk : J2 D = some (.dK (putK (kz (ns.take i) (ps.map V.ref)) (Sum.inr z : Key) (.ref p)))) : Cps H0 J2 D ns (ps ++ [p]) (i + 1) f := by
  refine ⟨by simp [c.l], ?_, by simp [c.d, nD], ?_, ?_, ?_⟩
  · rw [List.nodup_append]
    exact ⟨c.n, by simp, fun a ha b hb e => by rw [List.mem_singleton.mp hb] at e; exact np (e ▸ ha)⟩
  · intro q hq
    rcases List.mem_append.mp hq with hq | hq
    · exact c.o q hq
    · rw [List.mem_singleton.mp hq]; exact h0
  · intro j q hq
    by_cases lj : j < ps.length
    · rw [List.getElem?_append_left lj] at hq
      exact mono j q (c.h j q hq)
    · have e : j = i := by
        have := (List.getElem?_eq_some_iff.mp hq).1
        rw [List.length_append] at this
        have := c.l
        simp at *
        omega
      subst e
      rw [List.getElem?_append_right (by omega), c.l, Nat.sub_self] at hq
      have e2 : p = q := by simpa using hq
      rw [← e2]
      exact hp
  · rw [hk, kz_put nd hz (by simp [c.l]), List.map_append]
    rfl
section
variable {P : Program} {w : World} {K : PySem.W.Frag} {mg : Str → Option Value} {base : Heap} {C : Addr}
theorem sc_clone : FnScope ["self", "other", "name"] ["self"] (defScope sClone) :=
  ⟨rfl, rfl, rfl, by decide +kernel, rfl, by decide +kernel, by decide +kernel⟩
theorem m_clone (F : Mf K C "clone" "Catalog.clone" sClone ["self"]) (T : Txt mg) (TC : CatC K mg C) {fI : Addr} {fdI : FuncData} (MK : Mk K C fI) (FI : FnOk P w K mg base CX0 4 fI fdI ["self", "uses"] (spInit C)) (bI : Binds K fdI ["self", "uses"] []) : Mn P w K mg base CX0 6 C "clone" ["self"] (spClone C) := by
  refine F.ok sc_clone (fun vs H Q E h => ?_) (fun f cdv A0 outer s H vs Q E hr h => ?_)
  · obtain ⟨c, A, M, rfl, _⟩ := h
    rfl
  · obtain ⟨c, A, M, rfl, X, q⟩ := h
    have hu := hu_of hr
    refine ⟨_, (pss_cons (ps_set (i := 1) sc_clone.nd rfl (Or.inl rfl) (pe_mkD MK FI bI hr TC.gC pass0 (pa_cons (pe_fl TC.cl TC.n_used_names (pv 0)) pa_nil)))
      (pss_cons (ps_fld (pv 1) (pe_dc (own := [("name", 2)]) (g := (gName 2)) (tt := tYes) rfl sc_clone.nd (pi_list (pe_fl TC.cl TC.n_names (pv 0))) (blkOk_by (own := [("name", 2)]) (N := ["self", "other", "name"]) (sc := defScope sClone) (by decide +kernel)) (fun _ _ _ _ _ => (pg_name (i := 2) sc_clone.nd rfl (Or.inl rfl))) (fun _ _ _ _ _ => pts_nil) (fun _ _ _ _ _ => (pv 2)) (fun _ _ _ _ _ => (pe_callTy listL (by rfl) T.list (by decide +kernel) (pa_cons (pe_dget hu (pe_fl TC.cl TC.n_published (pv 0)) (pv 2) (fun _ _ => rfl)) pa_nil)))) rfl)
      (pss_cons (ps_fld (pv 1) (pe_dc (own := [("name", 2)]) (g := (gName 2)) (tt := tYes) rfl sc_clone.nd (pi_list (pe_fl TC.cl TC.n_names (pv 0))) (blkOk_by (own := [("name", 2)]) (N := ["self", "other", "name"]) (sc := defScope sClone) (by decide +kernel)) (fun _ _ _ _ _ => (pg_name (i := 2) sc_clone.nd rfl (Or.inl rfl))) (fun _ _ _ _ _ => pts_nil) (fun _ _ _ _ _ => (pv 2)) (fun _ _ _ _ _ => (pe_callTy listL (by rfl) T.list (by decide +kernel) (pa_cons (pe_dget hu (pe_fl TC.cl TC.n_present (pv 0)) (pv 2) (fun _ _ => rfl)) pa_nil)))) rfl)
      (pss_cons (ps_fld (pv 1) (pe_callTy listL (by rfl) T.list (by decide +kernel) (pa_cons (pe_fl TC.cl TC.n_events (pv 0)) pa_nil)) rfl)
      (pss_one (ps_ret (pv 1))))))), ?_⟩
    refine ⟨_, rfl, c, _, _, _, rfl, X.o, fl_used, fun x dx hx hdx ne => ?_⟩
    have s0 : Same H (upd (upd H dx (.own x)) x (.ins C dx [])) := same_put (new_same hdx) hx
    refine ⟨x, dx, A.aU, M.ns, A.ts, M.us, rfl, upd_same, X.u.ext s0, X.uk, fun A2 H1 e1 X1 fr => ⟨rfl, ?_⟩⟩
    have s1 : Same H H1 := fun b o h => e1 b o (ne_of_none h hx) (s0 b o h)
    have nsx : ∀ {q : Addr} {o : HO}, H q = some o → q ≠ x := fun h => ne_of_none h hx
    have frh : ∀ q ∈ dom x A2, H q = none := fun q m => by
      by_cases e : q = x
      · rw [e]; exact hx
      · exact same_none s0 (fr q m e)
    have Y1 := X.same s1
    have le := X.uk.le
    have nd := X.uk.nd
    -- published
    refine ⟨_, rfl, c, _, _, _, rfl, Y1.o, fl_names, A.aN, rfl, ⟨_, SqL.of Y1.n⟩, fun D hD => ?_⟩
    refine dc_it (walk_list (xs := M.ns.map V.str)) (fun i J => Same H1 J ∧ ∃ ps, Cps H1 J D M.ns ps i (fun j J v => ∀ ws, M.pb[j]? = some ws → ∃ p xs, v = .ref p ∧ J p = some (.lst xs) ∧ DaAll J xs (ws.map verD)))
      ⟨new_same hD, [], rfl, List.nodup_nil, by simp, by simp, by simp, upd_same⟩ (fun i J _ h => SqL.of (h.1 _ _ Y1.n)) ?_ ?_
    · rintro i v J0 J hi ⟨sJ, ps, cp⟩ ⟨rfl, hv⟩
      rw [List.getElem?_map] at hv
      cases hz : M.ns[i]? with
      | none => rw [hz] at hv; cases hv
      | some z =>
        rw [hz] at hv
        cases hv
        have YJ := Y1.same sJ
        have li := (List.getElem?_eq_some_iff.mp hz).1
        have lb : i < M.pb.length := by rw [X.lb]; exact li
        obtain ⟨p0, xs, _, g, hp0, dp0⟩ := YJ.pub hz (List.getElem?_eq_getElem lb)
        refine ⟨rfl, yesT ⟨_, rfl, _, rfl, c, _, _, _, rfl, YJ.o, fl_pub, _, rfl, _, _, rfl, g, p0, xs, rfl, hp0, fun l hl => ?_⟩⟩
        have jD := cp.k
        have nDl : D ≠ l := ne_of_none jD hl
        have h1l : H1 l = none := same_none sJ hl
        have nlp : l ∉ ps := fun m => by
          obtain ⟨j, hj⟩ := List.getElem?_of_mem m
          have lj : j < M.pb.length := by rw [X.lb]; have := (List.getElem?_eq_some_iff.mp hj).1; have := cp.l; omega
          obtain ⟨p, ys, e, hy, _⟩ := cp.h j l hj _ (List.getElem?_eq_getElem lj)
          cases e
          rw [hl] at hy
          cases hy
        have sJ2 : Same J (upd J l (.lst xs)) := new_same hl
        have D1 : H1 D = none := by
          cases z : H1 D with
          | none => rfl
          | some o => rw [z] at hD; cases hD
        refine ⟨_, Sum.inr z, rfl, (by rw [upd_ne nDl]; exact jD), ?_, same_put (same_trans sJ sJ2) D1, ps ++ [l], ?_⟩
        · rw [kz_len (by simp [cp.l]; omega)]
          simp only [List.length_take]
          rw [sizeLine_eq]
          omega
        · refine cp.next nd hz h1l nlp nDl (fun j q h ws hw => ?_) (fun ws hw => ?_) upd_same
          · obtain ⟨p, ys, e, hy, dy⟩ := h ws hw
            have npD : p ≠ D := fun e => by rw [e, jD] at hy; cases hy
            exact ⟨p, ys, e, by rw [upd_ne npD, upd_ne (ne_of_none hy hl)]; exact hy, (dy.keep ((KT.of sJ2).trans (KT.put (by rw [upd_ne nDl]; exact jD) rfl)) (vers_imm ws))⟩
          · rw [List.getElem?_eq_getElem lb] at hw
            cases hw
            exact ⟨l, xs, rfl, by rw [upd_ne nDl.symm, upd_same], dp0.keep ((KT.of sJ2).trans (KT.put (by rw [upd_ne nDl]; exact jD) rfl)) (vers_imm _)⟩
    rintro J ⟨sJ, ps, cp⟩
    rw [List.length_map] at cp
    have D1 : H1 D = none := by
      cases z : H1 D with
      | none => rfl
      | some o => rw [z] at hD; cases hD
    refine ⟨_, rfl, x, C, A2.dx, _, rfl, sJ _ _ X1.o, TC.cl, TC.n_published, (by show 6 < 1000; decide), ?_⟩
    have pd := cp.k
    rw [take_all rfl] at pd
    have nDx : D ≠ x := fun e => by rw [e, X1.o] at D1; cases D1
    have h2 : ∀ q o, q ≠ x → J q = some o → (upd J x (.ins C A2.dx (putF "published" (.ref D) (flds A2)))) q = some o := fun q o n h => by rw [upd_ne n]; exact h
    have s2 : Same H (upd J x (.ins C A2.dx (putF "published" (.ref D) (flds A2)))) := same_put (same_trans s1 sJ) hx
    have x2 : (upd J x (.ins C A2.dx (putF "published" (.ref D) (flds A2)))) x = some (.ins C A2.dx (putF "published" (.ref D) (flds A2))) := upd_same
    have d2 := h2 _ _ nDx pd
    have nx : A2.aN ≠ x := fun e => by have := X1.n; rw [e, X1.o] at this; cases this
    have ux : A2.aU ≠ x := fun e => by have := X1.u.h; rw [e, X1.o] at this; cases this
    have n2 := h2 _ _ nx (sJ _ _ X1.n)
    have kJ : KT H1 (upd J x (.ins C A2.dx (putF "published" (.ref D) (flds A2)))) := (KT.of sJ).trans (KT.put (sJ _ _ X1.o) rfl)
    have u2 : UsesAt (upd J x (.ins C A2.dx (putF "published" (.ref D) (flds A2)))) A2.aU M.ns A2.ts M.us := ⟨h2 _ _ ux (sJ _ _ X1.u.h), X1.u.lt, X1.u.lu, fun i t l h1 h2 => (X1.u.z i t l h1 h2).keep kJ⟩
    have px : ∀ p ∈ ps, p ≠ x := fun p m e => by have := cp.o p m; rw [e, X1.o] at this; cases this
    have p2 : ∀ (j : Nat) (p : Addr) (ws : List Ver), ps[j]? = some p → M.pb[j]? = some ws → ∃ xs, (upd J x (.ins C A2.dx (putF "published" (.ref D) (flds A2)))) p = some (.lst xs) ∧ DaAll (upd J x (.ins C A2.dx (putF "published" (.ref D) (flds A2)))) xs (ws.map verD) := fun j p ws h1 h3 => by
      obtain ⟨p', ys, e, hy, dy⟩ := cp.h j p h1 ws h3
      cases e
      exact ⟨ys, h2 _ _ (px p (List.mem_of_getElem? h1)) hy, dy.keep (KT.put (sJ _ _ X1.o) rfl) (vers_imm ws)⟩
    have fD : H D = none := same_none s1 D1
    have fps : ∀ p ∈ ps, H p = none := fun p m => same_none s1 (cp.o p m)
    have lps := cp.l
    have nps := cp.n
    have nNp : ∀ p ∈ ps, p ≠ A2.aN := fun p m e => by have := cp.o p m; rw [e, X1.n] at this; cases this
    have dps := cp.d
    generalize upd J x (.ins C A2.dx (putF "published" (.ref D) (flds A2))) = H2 at h2 s2 x2 d2 n2 kJ u2 p2
    -- present
    have Y2 := X.same s2
    refine ⟨_, rfl, c, _, _, _, rfl, Y2.o, fl_names, A.aN, rfl, ⟨_, SqL.of Y2.n⟩, fun D2 hD2 => ?_⟩
    refine dc_it (walk_list (xs := M.ns.map V.str)) (fun i J => Same H2 J ∧ ∃ qs, Cps H2 J D2 M.ns qs i (fun j J v => ∀ bs, M.pr[j]? = some bs → ∃ p, v = .ref p ∧ J p = some (.lst (bs.map V.bl))))
      ⟨new_same hD2, [], rfl, List.nodup_nil, by simp, by simp, by simp, upd_same⟩ (fun i J _ h => SqL.of (h.1 _ _ Y2.n)) ?_ ?_
    · rintro i v J0 J hi ⟨sJ, ps, cp⟩ ⟨rfl, hv⟩
      rw [List.getElem?_map] at hv
      cases hz : M.ns[i]? with
      | none => rw [hz] at hv; cases hv
      | some z =>
        rw [hz] at hv
        cases hv
        have YJ := Y2.same sJ
        have li := (List.getElem?_eq_some_iff.mp hz).1
        have lb : i < M.pr.length := by rw [X.lr]; exact li
        obtain ⟨p0, _, g, hp0⟩ := YJ.pres hz (List.getElem?_eq_getElem lb)
        refine ⟨rfl, yesT ⟨_, rfl, _, rfl, c, _, _, _, rfl, YJ.o, fl_pres, _, rfl, _, _, rfl, g, p0, _, rfl, hp0, fun l hl => ?_⟩⟩
        have jD := cp.k
        have nDl : D2 ≠ l := ne_of_none jD hl
        have h1l : H2 l = none := same_none sJ hl
        have nlp : l ∉ ps := fun m => by
          obtain ⟨j, hj⟩ := List.getElem?_of_mem m
          have lj : j < M.pr.length := by rw [X.lr]; have := (List.getElem?_eq_some_iff.mp hj).1; have := cp.l; omega
          obtain ⟨p, e, hy⟩ := cp.h j l hj _ (List.getElem?_eq_getElem lj)
          cases e
          rw [hl] at hy
          cases hy
        have sJ2 : Same J (upd J l (.lst (M.pr[i].map V.bl))) := new_same hl
        refine ⟨_, Sum.inr z, rfl, (by rw [upd_ne nDl]; exact jD), ?_, same_put (same_trans sJ sJ2) hD2, ps ++ [l], ?_⟩
        · rw [kz_len (by simp [cp.l]; omega)]
          simp only [List.length_take]
          rw [sizeLine_eq]
          omega
        · refine cp.next nd hz h1l nlp nDl (fun j q h bs hb => ?_) (fun bs hb => ?_) upd_same
          · obtain ⟨p, e, hy⟩ := h bs hb
            have npD : p ≠ D2 := fun e => by rw [e, jD] at hy; cases hy
            exact ⟨p, e, by rw [upd_ne npD, upd_ne (ne_of_none hy hl)]; exact hy⟩
          · rw [List.getElem?_eq_getElem lb] at hb
            cases hb
            exact ⟨l, rfl, by rw [upd_ne nDl.symm, upd_same]⟩
    rintro J ⟨sJ, qs, cq⟩
    rw [List.length_map] at cq
    refine ⟨_, rfl, x, C, A2.dx, _, rfl, sJ _ _ x2, TC.cl, TC.n_present, (by show 6 < 1000; decide), ?_⟩
    have qd := cq.k
    rw [take_all rfl] at qd
    have nD2x : D2 ≠ x := fun e => by rw [e, x2] at hD2; cases hD2
    -- events
    obtain ⟨es, hE, dE⟩ := (X.same (same_put (o := .ins C A2.dx (putF "present" (.ref D2) (putF "published" (.ref D) (flds A2)))) (same_trans s2 sJ) hx)).e
    have Y3 := X.same (same_put (o := .ins C A2.dx (putF "present" (.ref D2) (putF "published" (.ref D) (flds A2)))) (same_trans s2 sJ) hx)
    refine ⟨_, rfl, c, _, _, _, rfl, Y3.o, fl_ev, A.aE, es, rfl, hE, fun aE haE => ?_⟩
    have nEx : x ≠ aE := ne_of_none upd_same haE
    have jE : J aE = none := by rw [upd_ne nEx.symm] at haE; exact haE
    refine ⟨_, rfl, x, C, A2.dx, _, rfl, (by rw [upd_ne nEx, upd_same]), TC.cl, TC.n_events, (by show 6 < 1000; decide), ?_⟩
    refine ⟨_, rfl, ?_⟩
    have sf : Same H (upd (upd (upd J x (.ins C A2.dx (putF "present" (.ref D2) (putF "published" (.ref D) (flds A2))))) aE (.lst es)) x (.ins C A2.dx (putF "events" (.ref aE) (putF "present" (.ref D2) (putF "published" (.ref D) (flds A2)))))) :=
      same_put (same_new (same_put (same_trans s2 sJ) hx) haE) hx
    have kf : KT J (upd (upd (upd J x (.ins C A2.dx (putF "present" (.ref D2) (putF "published" (.ref D) (flds A2))))) aE (.lst es)) x (.ins C A2.dx (putF "events" (.ref aE) (putF "present" (.ref D2) (putF "published" (.ref D) (flds A2)))))) :=
      (KT.put (sJ _ _ x2) rfl).trans ((KT.new haE).trans (KT.put (o := .ins C A2.dx (putF "present" (.ref D2) (putF "published" (.ref D) (flds A2)))) (by rw [upd_ne nEx, upd_same]) rfl))
    have fin : ∀ q o, q ≠ x → J q = some o → (upd (upd (upd J x (.ins C A2.dx (putF "present" (.ref D2) (putF "published" (.ref D) (flds A2))))) aE (.lst es)) x (.ins C A2.dx (putF "events" (.ref aE) (putF "present" (.ref D2) (putF "published" (.ref D) (flds A2)))))) q = some o := fun q o n h => by
      rw [upd_ne n, upd_ne (ne_of_none h jE), upd_ne n]; exact h
    have k2f := (KT.of sJ).trans kf
    have qx : ∀ p ∈ qs, p ≠ x := fun p m e => by have := cq.o p m; rw [e, x2] at this; cases this
    have f2 : ∀ {q : Addr}, H2 q = none → H q = none := fun h => same_none s2 h
    refine q x { A2 with aP := D, aR := D2, aE := aE, ps := ps, qs := qs } _ sf ?_ ?_
    · refine ⟨?_, fin _ _ nx (sJ _ _ n2), ⟨fin _ _ ux (sJ _ _ u2.h), u2.lt, u2.lu, fun i t l h1 h2 => (u2.z i t l h1 h2).keep k2f⟩, X.uk, fin _ _ nDx (sJ _ _ d2), fin _ _ nD2x qd, lps, cq.l, X.lb, X.lr, ?_, ?_, ⟨es, ?_, ?_⟩, ?_, X.ei⟩
      · rw [upd_same, g1]
        rfl
      · intro i p ws h1 h2
        obtain ⟨ys, hy, dy⟩ := p2 i p ws h1 h2
        exact ⟨ys, fin _ _ (px p (List.mem_of_getElem? h1)) (sJ _ _ hy), dy.keep k2f (vers_imm ws)⟩
      · intro i p bs h1 h2
        obtain ⟨p', e, hy⟩ := cq.h i p h1 bs h2
        cases e
        exact fin _ _ (qx p (List.mem_of_getElem? h1)) hy
      · rw [upd_ne nEx.symm, upd_same]
      · obtain ⟨es2, hE2, dE2⟩ := (X.same sf).e
        have ee : es2 = es := by
          have a1 := sf _ _ (show H A.aE = some (.lst es) from ?_)
          · rw [a1] at hE2
            cases hE2
            rfl
          · obtain ⟨es3, hE3, _⟩ := X.e
            have a2 := (same_put (o := .ins C A2.dx (putF "present" (.ref D2) (putF "published" (.ref D) (flds A2)))) (same_trans s2 sJ) hx) _ _ hE3
            rw [hE] at a2
            cases a2
            exact hE3
        subst ee
        exact dE2
      · show (A2.aN :: aE :: (ps ++ qs)).Nodup
        rw [List.nodup_cons, List.nodup_cons, List.nodup_append]
        have lE : ∀ {q : Addr} {o : HO}, J q = some o → q ≠ aE := fun h => ne_of_none h jE
        refine ⟨fun m => ?_, fun m => ?_, nps, cq.n, fun a ha b hb e => ?_⟩
        · have cs : A2.aN = aE ∨ A2.aN ∈ ps ∨ A2.aN ∈ qs := by simpa using m
          rcases cs with e | m | m
          · exact lE (sJ _ _ n2) e
          · exact nNp _ m rfl
          · have := cq.o _ m
            rw [n2] at this
            cases this
        · rcases List.mem_append.mp m with m | m
          · obtain ⟨j, hj⟩ := List.getElem?_of_mem m
            have lj : j < M.pb.length := by rw [X.lb]; have := (List.getElem?_eq_some_iff.mp hj).1; omega
            obtain ⟨ys, hy, _⟩ := p2 j aE _ hj (List.getElem?_eq_getElem lj)
            exact lE (sJ _ _ hy) rfl
          · obtain ⟨j, hj⟩ := List.getElem?_of_mem m
            have lj : j < M.pr.length := by rw [X.lr]; have := (List.getElem?_eq_some_iff.mp hj).1; have := cq.l; omega
            obtain ⟨p', e, hy⟩ := cq.h j aE hj _ (List.getElem?_eq_getElem lj)
            cases e
            exact lE hy rfl
        · obtain ⟨j, hj⟩ := List.getElem?_of_mem ha
          have lj : j < M.pb.length := by rw [X.lb]; have := (List.getElem?_eq_some_iff.mp hj).1; omega
          obtain ⟨ys, hy, _⟩ := p2 j a _ hj (List.getElem?_eq_getElem lj)
          have := cq.o b hb
          rw [← e, hy] at this
          cases this
    · intro p hp
      simp only [dom, List.mem_cons, List.mem_append] at hp
      rcases hp with h | h | h | h | h | h | h | h
      · rw [h]; exact hx
      · rw [h]; exact frh _ (by simp [dom])
      · rw [h]; exact frh _ (by simp [dom])
      · rw [h]; exact fD
      · rw [h]; exact f2 hD2
      · rw [h]; exact f2 (same_none sJ jE)
      · exact fps p h
      · exact f2 (cq.o p h)
end
end N23
set_option maxHeartbeats 1000000
namespace N23
open PySem PySem.Spec PyProof.Rows L2 G
/-- what isinstance asks of the class -/
structure IsC (K : PySem.W.Frag) (C : Addr) : Prop where
  ha : PySem.W.findIn K (.ref C) "__class__" = some (some (.builtin "object.__class__"))
  hn : PySem.W.specialIn K (.builtin "object.__class__") "__get__" = some (some (.builtin "getset_descriptor.__get__"))
  ht : PySem.W.takesIn K (.builtin "object.__class__") = some true
  hm : PySem.W.mroIn K C (.type "object") = some true
  kit : PySem.W.kitOne K (.ref C) (.ref C) = some true
theorem eqv_hi (a b : Option Int) : PyData.eqv (hiD a) (hiD b) = decide (a = b) := by
  cases a with
  | none => cases b <;> simp [hiD, PyData.eqv]
  | some i => cases b <;> simp [hiD, PyData.eqv, Bool.beq_eq_decide_eq]
theorem eqv_win (a b : Win) : PyData.eqv (winD a) (winD b) = decide (a = b) := by
  obtain ⟨al, ah⟩ := a
  obtain ⟨bl, bh⟩ := b
  show (PyData.eqv (.int al) (.int bl) && (PyData.eqv (hiD ah) (hiD bh) && true)) = _
  rw [eqv_hi]
  simp [PyData.eqv, Bool.beq_eq_decide_eq]
theorem eqvAll_map {α : Type} [DecidableEq α] {f : α → PyData} (h : ∀ a b, PyData.eqv (f a) (f b) = decide (a = b)) : ∀ l m : List α, PyData.eqvAll (l.map f) (m.map f) = decide (l = m)
  | [], [] => by simp [PyData.eqvAll]
  | [], b :: m => by simp [PyData.eqvAll]
  | a :: l, [] => by simp [PyData.eqvAll]
  | a :: l, b :: m => by
    rw [List.map_cons, List.map_cons, PyData.eqvAll, h, eqvAll_map h l m]
    simp
theorem eqAll_map {α : Type} [DecidableEq α] {f : α → PyData} (h : ∀ a b, PyData.eqv (f a) (f b) = decide (a = b)) : ∀ l m : List α, l.length = m.length → eqAll (l.map f) (m.map f) = decide (l = m)
  | [], [], _ => by simp [eqAll]
  | [], b :: m, e => by simp at e
  | a :: l, [], e => by simp at e
  | a :: l, b :: m, e => by
    rw [List.map_cons, List.map_cons, eqAll, h, eqAll_map h l m (by simpa using e)]
    simp
theorem eqv_ver (a b : Ver) : PyData.eqv (verD a) (verD b) = decide (a = b) := eqvAll_map eqv_win a b
def versD (ws : List Ver) : PyData := .list (ws.map verD)
theorem eqv_vers (a b : List Ver) : PyData.eqv (versD a) (versD b) = decide (a = b) := eqvAll_map eqv_ver a b
def flagsD (bs : List Bool) : PyData := .list (bs.map PyData.bool)
theorem eqv_flags (a b : List Bool) : PyData.eqv (flagsD a) (flagsD b) = decide (a = b) := eqvAll_map (fun a b => by simp [PyData.eqv, Bool.beq_eq_decide_eq]) a b
def strsD (l : List Str) : PyData := .tuple (l.map PyData.str)
theorem eqv_str (a b : Str) : PyData.eqv (.str a) (.str b) = decide (a = b) := by
  simp only [PyData.eqv]
  by_cases h : a = b
  · simp [h]
  · simp [h]
theorem eqv_strs (a b : List Str) : PyData.eqv (strsD a) (strsD b) = decide (a = b) := eqvAll_map eqv_str a b
theorem lay_all {ds : List PyData} (h : ∀ d ∈ ds, d.canLay0 = true) : PyData.canLayAll0 ds = true := by
  induction ds with
  | nil => rfl
  | cons d ds ih => simp only [PyData.canLayAll0, Bool.and_eq_true]; exact ⟨h d (by simp), ih fun x hx => h x (by simp [hx])⟩
theorem dep_all {ds : List PyData} {n : Nat} (h : ∀ d ∈ ds, d.depth ≤ n) : PyData.depthAll ds ≤ n := by
  induction ds with
  | nil => exact Nat.zero_le _
  | cons d ds ih =>
    simp only [PyData.depthAll]
    exact Nat.max_le.mpr ⟨h d (by simp), ih fun x hx => h x (by simp [hx])⟩
theorem win_lay (w : Win) : (winD w).canLay0 = true ∧ (winD w).depth ≤ 1 := by
  obtain ⟨l, h⟩ := w
  cases h <;> exact ⟨rfl, Nat.le_refl _⟩
theorem ver_lay (v : Ver) : (verD v).canLay0 = true ∧ (verD v).depth ≤ 2 := by
  refine ⟨lay_all fun d hd => ?_, ?_⟩
  · obtain ⟨w, _, rfl⟩ := List.mem_map.mp hd
    exact (win_lay w).1
  · show PyData.depthAll (v.map winD) + 1 ≤ 2
    have := dep_all (ds := v.map winD) (n := 1) fun d hd => by
      obtain ⟨w, _, rfl⟩ := List.mem_map.mp hd
      exact (win_lay w).2
    omega
theorem vers_lay (v : List Ver) : (versD v).canLay0 = true ∧ (versD v).depth ≤ 20 := by
  refine ⟨lay_all fun d hd => ?_, ?_⟩
  · obtain ⟨w, _, rfl⟩ := List.mem_map.mp hd
    exact (ver_lay w).1
  · show PyData.depthAll (v.map verD) + 1 ≤ 20
    have := dep_all (ds := v.map verD) (n := 2) fun d hd => by
      obtain ⟨w, _, rfl⟩ := List.mem_map.mp hd
      exact (ver_lay w).2
    omega
theorem flags_lay (v : List Bool) : (flagsD v).canLay0 = true ∧ (flagsD v).depth ≤ 20 := by
  refine ⟨lay_all fun d hd => ?_, ?_⟩
  · obtain ⟨w, _, rfl⟩ := List.mem_map.mp hd
    rfl
  · show PyData.depthAll (v.map PyData.bool) + 1 ≤ 20
    have := dep_all (ds := v.map PyData.bool) (n := 0) fun d hd => by
      obtain ⟨w, _, rfl⟩ := List.mem_map.mp hd
      exact Nat.le_refl _
    omega
theorem name_ok {z : Str} (h : NameOk z) : PyData.strOk z = true := by
  simp only [PyData.strOk]
  refine Array.all_eq_true_iff_forall_mem.mpr fun x hx => decide_eq_true ?_
  exact letOk x (h.2.2 x (by simpa using hx))
theorem strs_lay {l : List Str} (h : ∀ z ∈ l, NameOk z) : PyData.canLayAll0 (l.map PyData.str) = true ∧ PyData.depthAll (l.map PyData.str) ≤ 0 :=
  ⟨lay_all fun d hd => by
    obtain ⟨z, hz, rfl⟩ := List.mem_map.mp hd
    exact name_ok (h z hz), dep_all fun d hd => by
    obtain ⟨z, hz, rfl⟩ := List.mem_map.mp hd
    exact Nat.le_refl _⟩
def spEq (C : Addr) : Sp := fun vs H Q _ => ∃ (c : Addr) (A : CAd) (M : Cat) (c2 : Addr) (A2 : CAd) (M2 : Cat), vs = [.ref c, .ref c2] ∧ CatAt C H c A M ∧ CatAt C H c2 A2 M2 ∧ M2.ns = M.ns ∧ M2.us = M.us ∧ Q (.bl (decide (M.pb = M2.pb) && decide (M.pr = M2.pr))) H
section
variable {P : Program} {w : World} {K : PySem.W.Frag} {mg : Str → Option Value} {base : Heap} {C : Addr}
theorem dp_strs {H : Hp} : ∀ l : List Str, DpAll K H (l.map V.str) (l.map PyData.str)
  | [] => .nil
  | z :: l => .cons (.str z) (dp_strs l)
theorem dp_bools {H : Hp} : ∀ l : List Bool, DpAll K H (l.map V.bl) (l.map PyData.bool)
  | [] => .nil
  | z :: l => .cons (.bl z) (dp_bools l)
theorem dp_of {H : Hp} {α : Type} {f : α → PyData} : ∀ {as : List Addr} {xs : List α}, as.length = xs.length → (∀ (i : Nat) (a : Addr) (x : α), as[i]? = some a → xs[i]? = some x → Dp K H (.ref a) (f x)) → DpAll K H (as.map V.ref) (xs.map f)
  | [], [], _, _ => .nil
  | [], _ :: _, e, _ => by simp at e
  | _ :: _, [], e, _ => by simp at e
  | a :: as, x :: xs, e, h => .cons (h 0 a x rfl rfl) (dp_of (by simpa using e) fun i a x h1 h2 => h (i + 1) a x (by simpa using h1) (by simpa using h2))
mutual
theorem no_dict : ∀ d : PyData, d.canLay0 = true → d.hasDict = false
  | .none, _ => rfl
  | .bool _, _ => rfl
  | .int _, _ => rfl
  | .str _, _ => rfl
  | .list xs, h => no_dictAll xs (by simpa [PyData.canLay0] using h)
  | .tuple xs, h => no_dictAll xs (by simpa [PyData.canLay0] using h)
  | .dict _, h => by simp [PyData.canLay0] at h
theorem no_dictAll : ∀ ds : List PyData, PyData.canLayAll0 ds = true → PyData.hasDictAll ds = false
  | [], _ => rfl
  | d :: ds, h => by
    simp only [PyData.canLayAll0, Bool.and_eq_true] at h
    simp only [PyData.hasDictAll, Bool.or_eq_false_iff]
    exact ⟨no_dict d h.1, no_dictAll ds h.2⟩
end
theorem CatAt.dpU {H : Hp} {c : Addr} {A : CAd} {M : Cat} (X : CatAt C H c A M) : DpAll K H (A.ts.map V.ref) (M.us.map strsD) :=
  dp_of (by rw [X.u.lt, X.u.lu]) fun i a l h1 h2 => .tup (.inl (X.u.z i a l h1 h2).rd) (dp_strs l)
theorem CatAt.dpP {H : Hp} {c : Addr} {A : CAd} {M : Cat} (X : CatAt C H c A M) : DpAll K H (A.ps.map V.ref) (M.pb.map versD) :=
  dp_of (by rw [X.lp, X.lb]) fun i a l h1 h2 => by
    obtain ⟨xs, hx, dx⟩ := X.pl i a l h1 h2
    exact .lst (SqL.of hx) (dx.dp (no_dictAll _ (vers_lay l).1))
theorem CatAt.dpR {H : Hp} {c : Addr} {A : CAd} {M : Cat} (X : CatAt C H c A M) : DpAll K H (A.qs.map V.ref) (M.pr.map flagsD) :=
  dp_of (by rw [X.lq, X.lr]) fun i a l h1 h2 => .lst (SqL.of (X.rl i a l h1 h2)) (dp_bools l)
theorem sc_eq : FnScope ["self", "other"] ["self", "other"] (defScope sEq) :=
  ⟨rfl, rfl, rfl, by decide +kernel, rfl, by decide +kernel, by decide +kernel⟩
theorem m_eq (F : Mf K C "__eq__" "Catalog.__eq__" sEq ["self", "other"]) (T : Txt mg) (TC : CatC K mg C) (IC : IsC K C) : Mn P w K mg base CX0 1 C "__eq__" ["self", "other"] (spEq C) := by
  refine F.ok sc_eq (fun vs H Q E h => ?_) (fun f cdv A0 outer s H vs Q E hr h => ?_)
  · obtain ⟨c, A, M, c2, A2, M2, rfl, _⟩ := h
    rfl
  · obtain ⟨c, A, M, c2, A2, M2, rfl, X, Y, en, eu, q⟩ := h
    have hu := hu_of hr
    refine ⟨_, (pss_one (ps_ret (pe_and (pe_callB call_isi (by rfl) T.isinstance (by decide +kernel) (pa_cons (pv 1) (pa_cons (pe_glob (v := .ref C) rfl TC.gC rfl) pa_nil))) (pe_and (pe_cmpR (op_eqD hr.units) (pe_fl TC.cl TC.n_names (pv 0)) (pe_fl TC.cl TC.n_names (pv 1)) (nomark _)) (pe_and (pe_cmpR (op_eqDk hr.units) (pe_fl TC.cl TC.n_used_names (pv 0)) (pe_fl TC.cl TC.n_used_names (pv 1)) (nomark _)) (pe_and (pe_cmpR (op_eqDk hr.units) (pe_fl TC.cl TC.n_published (pv 0)) (pe_fl TC.cl TC.n_published (pv 1)) (nomark _)) (pe_one (pe_cmpR (op_eqDk hr.units) (pe_fl TC.cl TC.n_present (pv 0)) (pe_fl TC.cl TC.n_present (pv 1)) (nomark _))))))))), ?_⟩
    refine ⟨_, rfl, _, _, _, _, _, rfl, .own _, .base (.ins Y.o TC.cl IC.ha IC.hn IC.ht IC.hm), IC.kit, _, rfl, iteT ?_⟩
    have nm : ∀ z ∈ M.ns, NameOk z := X.uk.nm
    have sl := strs_lay nm
    have sh : SeqAt.shaped (.list (M.ns.map PyData.str)) = true := by
      unfold SeqAt.shaped
      rw [Bool.and_eq_true]
      refine ⟨sl.1, decide_eq_true ?_⟩
      show PyData.depthAll (M.ns.map PyData.str) + 1 ≤ 64
      have := sl.2
      omega
    -- names
    refine ⟨_, rfl, c, _, _, _, rfl, X.o, fl_names, _, rfl, c2, _, _, _, rfl, Y.o, fl_names, .list (M.ns.map PyData.str), .list (M.ns.map PyData.str), .lst (SqL.of X.n) (dp_strs _), .lst (SqL.of (by rw [← en]; exact Y.n)) (dp_strs _), sh, sh, _, rfl, ?_⟩
    rw [SeqAt.eqv_refl (.list (M.ns.map PyData.str)) sl.1]
    refine iteT ?_
    have ul : ∀ (us : List (List Str)), us = M.us → ∀ d ∈ us.map strsD, d.canLay0 = true ∧ d.depth ≤ 20 := fun us e d hd => by
      obtain ⟨l, hl, rfl⟩ := List.mem_map.mp hd
      rw [e] at hl
      obtain ⟨i, hi⟩ := List.getElem?_of_mem hl
      have li : i < M.ns.length := by rw [← X.u.lu]; exact (List.getElem?_eq_some_iff.mp hi).1
      obtain ⟨_, _, m⟩ := X.uk.ok i _ l (List.getElem?_eq_getElem li) hi
      have s2 := strs_lay fun z hz => nm z (m z hz)
      refine ⟨s2.1, ?_⟩
      show PyData.depthAll (l.map PyData.str) + 1 ≤ 20
      have := s2.2
      omega
    -- used_names
    refine ⟨_, rfl, c, _, _, _, rfl, X.o, fl_used, _, rfl, c2, _, _, _, rfl, Y.o, fl_used, A.aU, A2.aU, _, _, M.us.map strsD, M2.us.map strsD, rfl, rfl, X.u.h, Y.u.h, (by rw [kz_keys X.lt, kz_keys Y.lt, en]), kz_nodup Y.lt Y.uk.nd,
      (by rw [kz_vals X.lt]; exact X.dpU), (by rw [kz_vals Y.lt]; exact Y.dpU), ul _ rfl, ul _ eu, _, rfl, ?_⟩
    rw [eu, eqAll_map eqv_strs _ _ rfl, decide_eq_true rfl]
    refine iteT ?_
    -- published
    refine ⟨_, rfl, c, _, _, _, rfl, X.o, fl_pub, _, rfl, c2, _, _, _, rfl, Y.o, fl_pub, A.aP, A2.aP, _, _, M.pb.map versD, M2.pb.map versD, rfl, rfl, X.p, Y.p, (by rw [kz_keys X.lps, kz_keys Y.lps, en]), kz_nodup Y.lps Y.uk.nd,
      (by rw [kz_vals X.lps]; exact X.dpP), (by rw [kz_vals Y.lps]; exact Y.dpP), (fun d hd => by obtain ⟨l, _, rfl⟩ := List.mem_map.mp hd; exact vers_lay l), (fun d hd => by obtain ⟨l, _, rfl⟩ := List.mem_map.mp hd; exact vers_lay l), _, rfl, ?_⟩
    rw [eqAll_map eqv_vers _ _ (by rw [X.lb, Y.lb, en])]
    by_cases ep : M.pb = M2.pb
    · rw [decide_eq_true ep] at q ⊢
      refine iteT ?_
      refine ⟨_, rfl, c, _, _, _, rfl, X.o, fl_pres, _, rfl, c2, _, _, _, rfl, Y.o, fl_pres, A.aR, A2.aR, _, _, M.pr.map flagsD, M2.pr.map flagsD, rfl, rfl, X.r, Y.r, (by rw [kz_keys X.lqs, kz_keys Y.lqs, en]), kz_nodup Y.lqs Y.uk.nd,
        (by rw [kz_vals X.lqs]; exact X.dpR), (by rw [kz_vals Y.lqs]; exact Y.dpR), (fun d hd => by obtain ⟨l, _, rfl⟩ := List.mem_map.mp hd; exact flags_lay l), (fun d hd => by obtain ⟨l, _, rfl⟩ := List.mem_map.mp hd; exact flags_lay l), ?_⟩
      rw [eqAll_map eqv_flags _ _ (by rw [X.lr, Y.lr, en])]
      rw [Bool.true_and] at q
      exact q
    · rw [decide_eq_false ep] at q ⊢
      exact iteF q
end
end N23
set_option maxHeartbeats 1000000
namespace N23
open PySem PySem.Spec PyProof.Rows L2 G
def topI (x : Win) : Int := match x.2 with
  | none => 10 ^ 64
  | some h => h
def WinB (x : Win) : Prop := ∀ h, x.2 = some h → h < 10 ^ 64
def fallsB (a b : Win) : Bool := decide (b.1 < a.1) || decide (topI b < topI a)
theorem falls_rises {a b : Win} (ha : WinB a) (hb : WinB b) : fallsB a b = !risesB a b := by
  obtain ⟨al, ah⟩ := a
  obtain ⟨bl, bh⟩ := b
  simp only [fallsB, risesB]
  by_cases h : bl < al
  · simp [h]
  · rw [if_neg h, decide_eq_false h, Bool.false_or]
    cases ah with
    | none =>
      cases bh with
      | none => exact decide_eq_false (Int.lt_irrefl _)
      | some k => exact decide_eq_true (hb k rfl)
    | some k =>
      cases bh with
      | none =>
        have := ha k rfl
        exact decide_eq_false (fun z : (10 : Int) ^ 64 < k => by omega)
      | some m =>
        show decide (topI (bl, some m) < topI (al, some k)) = !decide (m ≥ k)
        by_cases h2 : m < k
        · rw [decide_eq_false (show ¬ m ≥ k by omega)]; exact decide_eq_true h2
        · rw [decide_eq_true (show m ≥ k by omega)]; exact decide_eq_false h2
def spTop : Sp := fun vs H Q _ => ∃ (v : V) (x : Win), vs = [v] ∧ Da H v (winD x) ∧ Q (.int (topI x)) H
def spFalls : Sp := fun vs H Q _ => ∃ (v u : V) (a b : Win), vs = [v, u] ∧ Da H v (winD a) ∧ Da H u (winD b) ∧ Q (.bl (fallsB a b)) H
def spDrawn : Sp := fun vs H Q _ => ∃ (r : Addr) (n : Int), vs = [.ref r, .int n] ∧ Rng H r ∧ 0 < n ∧ n ≤ 1000 ∧
  ∀ (t : Addr) (x : Win) (H' : Hp), Ext r H H' → Rng H' r → H t = none → t ≠ r → H' t = some (.tup [.int x.1, hiV x.2]) → WinOk x → WinB x → Q (.ref t) H'
section
variable {P : Program} {w : World} {K : PySem.W.Frag} {mg : Str → Option Value} {base : Heap} {C CN : Addr}
theorem sc_top : FnScope ["_law_one"] ["_law_one"] (defScope sTop) :=
  ⟨rfl, rfl, rfl, by decide +kernel, rfl, by decide +kernel, by decide +kernel⟩
theorem d_top (F : Df K mg "_law_top" sTop ["_law_one"]) : Dn P w K mg base CX0 1 "_law_top" ["_law_one"] (spTop) := by
  refine F.ok sc_top (fun vs H Q E h => ?_) (fun f cdv A0 outer s H vs Q E hr h => ?_)
  · obtain ⟨v, x, rfl, _⟩ := h
    rfl
  · obtain ⟨v, x, rfl, hd, q⟩ := h
    have hu := hu_of hr
    refine ⟨_, (pss_one (ps_ret (pe_ifExp (pt_cmp (pc_isN (pe_ix ixT (pv 0) pe_int (fun _ _ => rfl)))) (pe_op op_pow pe_int pe_int) (pe_ix ixT (pv 0) pe_int (fun _ _ => rfl))))), ?_⟩
    obtain ⟨lo, hi⟩ := x
    obtain ⟨t, rfl, ht⟩ := win_at hd
    refine ⟨_, rfl, t, _, _, _, rfl, rfl, .inl ht, rfl, _, rfl, ?_⟩
    cases hi with
    | none => exact iteT ⟨_, _, rfl, rfl, ⟨by decide, by decide, by decide⟩, q⟩
    | some k => exact iteF ⟨_, rfl, t, _, _, _, rfl, rfl, .inl ht, rfl, q⟩
theorem sc_falls : FnScope ["_law_one", "_law_other"] ["_law_one", "_law_other"] (defScope sFalls) :=
  ⟨rfl, rfl, rfl, by decide +kernel, rfl, by decide +kernel, by decide +kernel⟩
theorem d_falls (F : Df K mg "_law_falls" sFalls ["_law_one", "_law_other"]) (DTop : Dn P w K mg base CX0 1 "_law_top" ["_law_one"] spTop) : Dn P w K mg base CX0 2 "_law_falls" ["_law_one", "_law_other"] (spFalls) := by
  refine F.ok sc_falls (fun vs H Q E h => ?_) (fun f cdv A0 outer s H vs Q E hr h => ?_)
  · obtain ⟨v, u, a, b, rfl, _⟩ := h
    rfl
  · obtain ⟨v, u, a, b, rfl, da, db, q⟩ := h
    have hu := hu_of hr
    refine ⟨_, (pss_one (ps_ret (pe_or (pe_cmpR op_lt (pe_ix ixT (pv 1) pe_int (fun _ _ => rfl)) (pe_ix ixT (pv 0) pe_int (fun _ _ => rfl)) (nomark _)) (pe_one (pe_cmpR op_lt (pe_cD DTop hr pass0 (pa_cons (pv 1) pa_nil)) (pe_cD DTop hr pass0 (pa_cons (pv 0) pa_nil)) (nomark _)))))), ?_⟩
    obtain ⟨t1, rfl, h1⟩ := win_at da
    obtain ⟨t2, rfl, h2⟩ := win_at db
    refine ⟨_, rfl, t2, _, _, _, rfl, rfl, .inl h2, rfl, _, rfl, t1, _, _, _, rfl, rfl, .inl h1, rfl, _, _, rfl, rfl, _, rfl, ?_⟩
    simp only [fallsB] at q
    refine ite2 (fun hlt => ?_) (fun hlt => ?_)
    · rw [hlt] at q
      exact q
    · rw [Bool.eq_false_iff.mpr hlt] at q
      exact ⟨_, rfl, _, b, rfl, db, _, rfl, _, a, rfl, da, _, _, rfl, rfl, q⟩
theorem sc_drawn : FnScope ["_law_rng_here", "_law_reach", "_law_low"] ["_law_rng_here", "_law_reach"] (defScope sDrawn) :=
  ⟨rfl, rfl, rfl, by decide +kernel, rfl, by decide +kernel, by decide +kernel⟩
theorem d_drawn (F : Df K mg "_law_drawn" sDrawn ["_law_rng_here", "_law_reach"]) (T : Txt mg) (DD : Dn P w K mg base CX0 1 "_law_draw" ["_law_rng_here", "_law_many"] spDraw) : Dn P w K mg base CX0 2 "_law_drawn" ["_law_rng_here", "_law_reach"] (spDrawn) := by
  refine F.ok sc_drawn (fun vs H Q E h => ?_) (fun f cdv A0 outer s H vs Q E hr h => ?_)
  · obtain ⟨r, n, rfl, _⟩ := h
    rfl
  · obtain ⟨r, n, rfl, R, n0, n1, q⟩ := h
    have hu := hu_of hr
    refine ⟨_, (pss_cons (ps_set (i := 2) sc_drawn.nd rfl (Or.inl rfl) (pe_cD DD hr pass0 (pa_cons (pv 0) (pa_cons (pv 1) pa_nil))))
      (pss_one (ps_ret (pe_tup (pa_cons (pv 2) (pa_cons (pe_ix ixL (pe_lst (pa_cons pe_non (pa_cons (pv 2) (pa_cons (pe_op op_add (pv 2) (pe_cD DD hr pass0 (pa_cons (pv 0) (pa_cons (pv 1) pa_nil)))) pa_nil)))) (pe_callB (call_min2 rfl) (by rfl) T.min (by decide +kernel) (pa_cons pe_int (pa_cons (pe_cD DD hr pass0 (pa_cons (pv 0) (pa_cons pe_int pa_nil))) pa_nil))) (fun _ _ => rfl)) pa_nil)))))), ?_⟩
    have nb : n.natAbs < 2 ^ 250 := Nat.lt_of_lt_of_le (show n.natAbs < 2 ^ 10 by omega) (Nat.pow_le_pow_right (by decide) (by decide))
    refine ⟨_, rfl, _, rfl, r, n, rfl, R, n0, nb, fun d H1 E1 R1 d0 d1 => ?_⟩
    refine ⟨_, rfl, _, rfl, _, rfl, _, rfl, _, rfl, r, n, rfl, R1, n0, nb, fun d2 H2 E2 R2 e0 e1 => ?_⟩
    refine ⟨_, _, rfl, rfl, (by show 3 ≤ sizeLine; decide), fun p hp => ?_⟩
    have nrp := R2.free hp
    refine ⟨_, rfl, r, 6, rfl, R2.new hp, by decide, by decide, fun d3 H3 E3 R3 f0 f1 => ?_⟩
    have hL := E3 _ _ nrp.symm (upd_same (H := H2) (a := p) (o := .lst [.non, .int d, .int (d + d2)]))
    have fin : ∀ hi : Option Int, (∀ h, hi = some h → d ≤ h ∧ h < 10 ^ 64) → ∀ t, H3 t = none → Q (.ref t) (upd H3 t (.tup [.int d, hiV hi])) := fun hi hh t ht => by
      have E0 : Ext r H H3 := ((E1.trans E2).trans (Ext.new hp)).trans E3
      exact q t (d, hi) _ (E0.trans (Ext.new ht)) (R3.new ht) (E0.none (R3.free ht).symm ht) (R3.free ht).symm upd_same ⟨d0, fun h e => (hh h e).1⟩ fun h e => (hh h e).2
    refine ⟨_, _, rfl, ?_⟩
    by_cases c0 : d3 = 0
    · subst c0
      refine ⟨p, _, _, _, rfl, rfl, hL, rfl, (by show 2 ≤ sizeLine; decide), fun t ht => ?_⟩
      exact fin none (fun h e => by cases e) t ht
    · by_cases c1 : d3 = 1
      · subst c1
        refine ⟨p, _, _, _, rfl, rfl, hL, rfl, (by show 2 ≤ sizeLine; decide), fun t ht => ?_⟩
        exact fin (some d) (fun h e => by cases e; omega) t ht
      · have e : (if d3 < 2 then d3 else 2) = 2 := by rw [if_neg (by omega)]
        rw [e]
        refine ⟨p, _, _, _, rfl, rfl, hL, rfl, (by show 2 ≤ sizeLine; decide), fun t ht => ?_⟩
        exact fin (some (d + d2)) (fun h e => by cases e; omega) t ht
end
end N23
set_option maxHeartbeats 1000000
namespace N23
open PySem PySem.Spec PyProof.Rows L2 G
theorem okd_nat {n : Nat} (h : n < 17) : OkD (.int (n : Nat)) := by
  have : ∀ m < 17, okB (.int (m : Nat)) = true := by decide +kernel
  exact okd (this n h)
theorem okd_pair {z y : Str} (hz : NameOk z) (hy : NameOk y) : OkD (.tuple [.str z, .str y]) := by
  have s : ∀ x : Str, NameOk x → (x.cps.toList.all fun c => decide (c < 16 ^ 8)) = true := fun x hx => by
    rw [List.all_eq_true]
    intro c hc
    exact decide_eq_true (Nat.lt_trans (letOk c (hx.2.2 c hc)) (by decide))
  refine ⟨rfl, ?_, ?_, Nat.le_add_left _ _⟩
  · show ((z.cps.toList.all fun c => decide (c < 16 ^ 8)) && ((y.cps.toList.all fun c => decide (c < 16 ^ 8)) && true)) = true
    rw [s z hz, s y hy]
    rfl
  · show z.cps.size + 1 + (y.cps.size + 1 + 0) ≤ 20000
    have h1 : z.cps.size ≤ 8 := hz.2.1
    have h2 : y.cps.size ≤ 8 := hy.2.1
    omega
theorem fallIn_mem : ∀ {u : List Str} {a b : Ver} {y : Str}, fallIn u a b = some y → y ∈ u
  | [], _, _, _, h => by simp [fallIn] at h
  | _ :: _, [], _, _, h => by simp [fallIn] at h
  | _ :: _, _ :: _, [], _, h => by simp [fallIn] at h
  | z :: u, x :: a, x2 :: b, y, h => by
    rw [fallIn] at h
    split at h
    · exact List.mem_cons_of_mem _ (fallIn_mem h)
    · cases h
      simp
theorem fallOf_mem {u : List Str} {wss : List Ver} {ws : Ver} {y : Str} (h : fallOf u wss ws = some y) : y ∈ u := by
  unfold fallOf at h
  split at h
  · cases h
  · exact fallIn_mem h
/-- the catalog's windows rise -/
structure Good (M : Cat) : Prop where
  g : ∀ (i : Nat) (u : List Str) (wss : List Ver), M.us[i]? = some u → M.pb[i]? = some wss → wss.length ≤ 16 ∧ (∀ v ∈ wss, VerOk u v ∧ ∀ x ∈ v, WinB x) ∧
    ∀ (n j : Nat) (v v2 : Ver) (a b : Win), wss[n]? = some v → wss[n + 1]? = some v2 → v[j]? = some a → v2[j]? = some b → risesB a b = true
  r : ∀ (i : Nat) (wss : List Ver) (bs : List Bool), M.pb[i]? = some wss → M.pr[i]? = some bs → bs.length = wss.length
def spTold (C : Addr) : Sp := fun vs H Q _ => ∃ (c : Addr) (A : CAd) (M : Cat) (z : Str) (i : Nat) (u : List Str) (wss : List Ver) (bs : List Bool) (ls : Addr) (xs : List V) (ws : Ver), vs = [.ref c, .str z, .ref ls] ∧ CatAt C H c A M ∧ M.ns[i]? = some z ∧ M.us[i]? = some u ∧
  M.pb[i]? = some wss ∧ M.pr[i]? = some bs ∧ H ls = some (.lst xs) ∧ ls ∉ (A.aE :: (A.ps ++ A.qs)) ∧ DaAll H xs (ws.map winD) ∧ VerOk u ws ∧ (∀ v ∈ wss, VerOk u v) ∧ wss.length < 16 ∧ bs.length < 1000 ∧ M.ev.length ≤ 100000 ∧
  (fallOf u wss ws = none → ∀ H', Fr (A.aE :: (A.ps ++ A.qs)) H H' → KT H H' → CatAt C H' c A (M.publish i z wss bs ws) → Q (.str (PyData.int (wss.length : Nat)).shown) H') ∧
  ∀ y, fallOf u wss ws = some y → ∀ H', Same H H' → Q (.str (PyData.tuple [.str z, .str y]).shown) H'
def spLRises (C : Addr) : Sp := fun vs H Q _ => ∃ (c : Addr) (A : CAd) (M : Cat), vs = [.ref c] ∧ CatAt C H c A M ∧ Good M ∧ ∀ H', Same H H' → Q (.bl true) H'
def col (wss : List Ver) (j i : Nat) : List Win := (wss.take i).map fun v => v.getD j (0, none)
theorem inV_false (n : Nat) : inV (.bl true) (List.replicate n (V.bl false)) = false := by
  unfold inV
  rw [List.any_eq_false]
  intro x hx
  rw [List.eq_of_mem_replicate hx]
  decide +kernel
theorem flat_rep (n : Nat) (b : Bool) : (List.replicate n (V.bl b)).all flatV = true := by
  rw [List.all_eq_true]
  intro x hx
  rw [List.eq_of_mem_replicate hx]
  rfl
theorem cut_one (xs : List V) : cutV xs (some 1) none = xs.tail := by
  unfold cutV
  rw [HT.sIx_none, show HT.sIx xs.length 0 (some 1) = min 1 xs.length from HT.sIx_nat _ _ 1]
  cases xs with
  | nil => rfl
  | cons t l =>
    simp only [List.length_cons, List.tail_cons]
    have e : min 1 (l.length + 1) = 1 := by omega
    rw [e]
    simp
theorem CatAt.row {C : Addr} {H : Hp} {c : Addr} {A : CAd} {M : Cat} (X : CatAt C H c A M) {i : Nat} {z : Str} (h : M.ns[i]? = some z) : ∃ u wss bs, M.us[i]? = some u ∧ M.pb[i]? = some wss ∧ M.pr[i]? = some bs := by
  have li := (List.getElem?_eq_some_iff.mp h).1
  have l1 : i < M.us.length := by rw [X.u.lu]; exact li
  have l2 : i < M.pb.length := by rw [X.lb]; exact li
  have l3 : i < M.pr.length := by rw [X.lr]; exact li
  exact ⟨_, _, _, List.getElem?_eq_getElem l1, List.getElem?_eq_getElem l2, List.getElem?_eq_getElem l3⟩
theorem col_succ {wss : List Ver} {j k : Nat} {v : Ver} {x : Win} (h : wss[k]? = some v) (hx : v[j]? = some x) : col wss j (k + 1) = col wss j k ++ [x] := by
  unfold col
  rw [List.take_add_one, h, List.map_append]
  simp [List.getD_eq_getElem?_getD, hx]
theorem col_get {wss : List Ver} {j k : Nat} {x : Win} (h : (col wss j wss.length)[k]? = some x) : ∃ v, wss[k]? = some v ∧ x = v.getD j (0, none) := by
  unfold col at h
  rw [List.take_length, List.getElem?_map] at h
  cases hv : wss[k]? with
  | none => rw [hv] at h; cases h
  | some v =>
    rw [hv] at h
    cases h
    exact ⟨v, rfl, rfl⟩
section
variable {P : Program} {w : World} {K : PySem.W.Frag} {mg : Str → Option Value} {base : Heap} {C CN : Addr}
theorem sc_told : FnScope ["_law_catalog", "_law_name_here", "_law_some", "_law_told_here", "e"] ["_law_catalog", "_law_name_here", "_law_some"] (defScope sTold) :=
  ⟨rfl, rfl, rfl, by decide +kernel, rfl, by decide +kernel, by decide +kernel⟩
theorem d_told (F : Df K mg "_law_told" sTold ["_law_catalog", "_law_name_here", "_law_some"]) (T : Txt mg) (TC : CatC K mg C) (XN : XV2 P w K mg base "NotRising" CN "user" "used") (eN : PySem.W.exmOne K (.ref CN) (.ref CN) = some true) (M_publish : Mn P w K mg base (L2.CX P w) 6 C "publish" ["self", "module", "windows"] (spPublish C CN)) : Gn P w K mg base CX0 7 "_law_told" ["_law_catalog", "_law_name_here", "_law_some"] (spTold C) := by
  refine F.okG sc_told (fun vs H Q E h => ?_) (fun f cdv A0 outer s H vs Q E gd hr h => ?_)
  · obtain ⟨c, A, M, z, i, u, wss, bs, ls, xs, ws, rfl, _⟩ := h
    rfl
  · obtain ⟨c, A, M, z, i, u, wss, bs, ls, xs, ws, rfl, X, hz, hi, hb, hr0, hl, nls, da, vo, vs, l16, lbs, lev, q, qe⟩ := h
    have hu := hu_of hr
    refine ⟨_, (pss_cons (ps_set (i := 3) sc_told.nd rfl (Or.inl rfl) pe_non)
      (pss_cons (ps_try_as (i := 4) (Wout := fun _ _ _ _ => False) (tb := fun W => tAsg (tMethS C "publish" (spPublish C CN) (WE W) (tVar 0) (tCons (tVar 1) (tCons (tVar 2) tNil))) (gName 3)) rfl rfl sc_told.nd rfl rfl ⟨rfl, by decide, Or.inl XN.gC⟩ takes0
          (fun W pn xe tk _ => pss_one (ps_set (i := 3) sc_told.nd rfl (Or.inl rfl) (by exact (pe_mS (pv 0) TC.cl M_publish hr (fun σ => passAt tk σ) (by exact (pa_cons (pv 1) (pa_cons (pv 2) pa_nil)))))))
          (fun a oe cls d pn hz hf => pss_one (ps_set (i := 3) sc_told.nd rfl (Or.inl rfl) (pe_tup (pa_cons (pe_xf XN.xf XN.no hz hf (pv 4)) (pa_cons (pe_xf XN.xf XN.no2 hz hf (pv 4)) pa_nil))))))
      (pss_one (ps_ret (pe_callB (call_rep gd hr.units) (by rfl) T.repr (by decide +kernel) (pa_cons (pv 3) pa_nil)))))), ?_⟩
    have mz := List.mem_of_getElem? hz
    refine ⟨_, rfl, c, _, _, rfl, X.o, rfl, _, rfl, _, rfl, c, A, M, z, i, u, wss, bs, ls, xs, ws, rfl, X, hz, hi, hb, hr0, hl, nls, da, vo, vs, l16, lbs, lev, fun fn H' f' k' X' => ?_, fun y fy d H' s' hd hx => ?_⟩
    · exact ⟨_, rfl, _, _, rfl, .int _, okd_nat (by omega), q fn H' f' k' X'⟩
    · have my : y ∈ M.ns := (X.uk.ok i z u hz hi).2.2 y (fallOf_mem fy)
      refine ⟨true, eN, fun _ a ha => ?_, fun z => Bool.noConfusion z⟩
      refine ⟨_, rfl, rfl, rfl, d, _, _, rfl, hx, rfl, _, rfl, rfl, rfl, d, _, _, rfl, hx, rfl, (by show 2 ≤ sizeLine; decide), fun t ht => ?_⟩
      refine ⟨_, rfl, _, _, rfl, .tup upd_same (.cons (.str z) (.cons (.str y) .nil)), okd_pair (X.uk.nm z mz) (X.uk.nm y my), ?_⟩
      exact qe y fy _ (same_new s' ht)
theorem sc_lrises : FnScope ["_law_catalog", "_law_user", "_law_used", "_law_column", "_law_k", "_law_one", "_law_other"] ["_law_catalog"] (defScope sLRises) :=
  ⟨rfl, rfl, rfl, by decide +kernel, rfl, by decide +kernel, by decide +kernel⟩
theorem d_lrises (F : Df K mg "_law_rises" sLRises ["_law_catalog"]) (T : Txt mg) (TC : CatC K mg C) (M_modules : Mn P w K mg base CX0 1 C "modules" ["self"] (spModules C)) (M_uses : Mn P w K mg base CX0 3 C "uses" ["self", "module"] (spUses C)) (M_versions : Mn P w K mg base CX0 3 C "versions" ["self", "module"] (spVersions C)) (M_window : Mn P w K mg base CX0 3 C "window" ["self", "user", "used", "version"] (spWindow C)) (DF : Dn P w K mg base CX0 2 "_law_falls" ["_law_one", "_law_other"] spFalls) : Dn P w K mg base CX0 4 "_law_rises" ["_law_catalog"] (spLRises C) := by
  refine F.ok sc_lrises (fun vs H Q E h => ?_) (fun f cdv A0 outer s H vs Q E hr h => ?_)
  · obtain ⟨c, A, M, rfl, _⟩ := h
    rfl
  · obtain ⟨c, A, M, rfl, X, GG, q⟩ := h
    have hu := hu_of hr
    refine ⟨_, (pss_cons (ps_for PassesOwn.never rfl (pi_list (pe_mD0 (pv 0) TC.cl M_modules hr pass0)) (pg_name (i := 1) sc_lrises.nd rfl (Or.inr rfl)) (pss_one (ps_for PassesOwn.never rfl (pi_list (pe_mD (pv 0) TC.cl M_uses hr pass0 (pa_cons (pv 1) pa_nil))) (pg_name (i := 2) sc_lrises.nd rfl (Or.inr rfl)) (pss_cons (ps_setLc (i := 3) (own := [("_law_k", 4)]) (g := (gName 4)) (tt := tYes) rfl sc_lrises.nd rfl rfl (sw_true rfl rfl rfl (by decide +kernel)) (pi_range1 (by rfl) T.range (pa_cons (pe_mD (pv 0) TC.cl M_versions hr pass0 (pa_cons (pv 1) pa_nil)) pa_nil)) (blkOk_by (own := [("_law_k", 4)]) (N := ["_law_catalog", "_law_user", "_law_used", "_law_column", "_law_k", "_law_one", "_law_other"]) (sc := defScope sLRises) (by decide +kernel)) (fun _ _ _ _ _ => (pg_name (i := 4) sc_lrises.nd rfl (Or.inl rfl))) (fun _ _ _ _ _ => pts_nil) (fun _ _ _ _ _ => (pe_mD (pv 0) TC.cl M_window hr pass0 (pa_cons (pv 1) (pa_cons (pv 2) (pa_cons (pv 4) pa_nil))))))
      (pss_one (ps_if (pt_cmpR inL pe_bl (pe_lc (own := [("_law_one", 5), ("_law_other", 6)]) (g := (gTup K 2 (gCons (gName 5) (gCons (gName 6) gNil)))) (tt := tYes) rfl sc_lrises.nd (pi_zip (by rfl) T.zip (pa_cons (pv 3) (pa_cons (pe_slice slL (pv 3) (po_some pe_int) po_none) pa_nil))) (blkOk_by (own := [("_law_one", 5), ("_law_other", 6)]) (N := ["_law_catalog", "_law_user", "_law_used", "_law_column", "_law_k", "_law_one", "_law_other"]) (sc := defScope sLRises) (by decide +kernel)) (fun _ _ _ _ _ => (pg_tup rfl (pgs_cons (pg_name (i := 5) sc_lrises.nd rfl (Or.inl rfl)) (pgs_cons (pg_name (i := 6) sc_lrises.nd rfl (Or.inl rfl)) pgs_nil)))) (fun _ _ _ _ _ => pts_nil) (fun _ _ _ _ _ => (pe_cD DF hr pass0 (pa_cons (pv 5) (pa_cons (pv 6) pa_nil))))) (by rfl)) (pss_one (ps_ret pe_bl)) pss_nil))))))
      (pss_one (ps_ret pe_bl))), ?_⟩
    refine ⟨_, rfl, c, _, _, rfl, X.o, rfl, c, A, M, rfl, X, fun l1 hl1 => ?_⟩
    refine ⟨l1, rfl, ⟨_, SqL.of upd_same⟩, ?_⟩
    refine for_list (K := K) (a := l1) (xs := M.ns.map V.str) (fun i σ J => Same H J ∧ J l1 = some (.lst (M.ns.map V.str)) ∧ ∃ x y z k1 k2 k3, σ = [some (.ref c), x, y, z, k1, k2, k3]) ⟨new_same hl1, upd_same, _, _, _, _, _, _, rfl⟩ (fun i σ J _ h => SqL.of h.2.1) ?_ ?_
    · rintro i v σ J hv ⟨sJ, jl, x, y, z, k1, k2, k3, rfl⟩
      rw [List.getElem?_map] at hv
      cases hz : M.ns[i]? with
      | none => rw [hz] at hv; cases hv
      | some nm =>
        rw [hz] at hv
        cases hv
        obtain ⟨u, wss, bs, hi, hb, hr0⟩ := X.row hz
        obtain ⟨g1, g2, g3⟩ := GG.g i _ _ hi hb
        obtain ⟨_, nu, _⟩ := X.uk.ok i nm _ hz hi
        have XJ := X.same sJ
        refine ⟨_, rfl, c, _, _, rfl, XJ.o, rfl, _, rfl, c, A, M, nm, i, u, rfl, XJ, hz, hi, fun l2 hl2 => ?_⟩
        refine ⟨l2, rfl, ⟨_, SqL.of upd_same⟩, ?_⟩
        refine for_list (K := K) (a := l2) (xs := u.map V.str) (fun j σ J2 => Same J J2 ∧ J2 l2 = some (.lst (u.map V.str)) ∧ ∃ y z k1 k2 k3, σ = [some (.ref c), some (.str nm), y, z, k1, k2, k3]) ⟨new_same hl2, upd_same, _, _, _, _, _, rfl⟩ (fun i σ J _ h => SqL.of h.2.1) ?_ ?_
        · rintro j v σ J2 hv ⟨sJ2, jl2, y, z, k1, k2, k3, rfl⟩
          rw [List.getElem?_map] at hv
          cases hy : u[j]? with
          | none => rw [hy] at hv; cases hv
          | some un =>
            rw [hy] at hv
            cases hv
            have lj := (List.getElem?_eq_some_iff.mp hy).1
            have s2 := same_trans sJ sJ2
            have X2 := X.same s2
            refine ⟨_, rfl, c, _, _, rfl, X2.o, rfl, _, rfl, c, A, M, nm, i, wss, rfl, X2, hz, hb, _, rfl, by omega, by omega, fun D hD => ?_⟩
            refine lc_range (lo := 0) (n := wss.length) (fun k J3 => Same J2 J3 ∧ KT (upd J2 D (.lst [])) J3 ∧ ∃ xs, J3 D = some (.lst xs) ∧ xs.length = k ∧ DaAll J3 xs ((col wss j k).map winD)) ⟨new_same hD, .refl _, [], upd_same, rfl, .nil⟩ ?_ ?_
            · rintro k J3 lk ⟨s3, k3, xs, hx, lx, dx⟩
              obtain ⟨v, hv⟩ : ∃ v, wss[k]? = some v := ⟨_, List.getElem?_eq_getElem lk⟩
              obtain ⟨⟨lv, _⟩, _⟩ := g2 v (List.mem_of_getElem? hv)
              obtain ⟨x0, hx0⟩ : ∃ x, v[j]? = some x := ⟨_, List.getElem?_eq_getElem (by rw [lv]; exact lj)⟩
              have X3 := X2.same s3
              refine ⟨rfl, yesT ?_⟩
              refine ⟨_, rfl, c, _, _, rfl, X3.o, rfl, _, rfl, _, rfl, _, rfl, c, A, M, nm, un, i, j, k, u, wss, v, x0, (by simp), X3, hz, hi, hy, hb, hv, hx0, fun val dval => ?_⟩
              have kk := G.KT.put (o' := .lst (xs ++ [val])) hx rfl
              refine ⟨xs, hx, (by rw [sizeLine_eq]; omega), same_put s3 hD, k3.trans kk, xs ++ [val], upd_same, by simp [lx], ?_⟩
              rw [col_succ hv hx0, List.map_append]
              refine (dx.keep kk ?_).snoc (dval.keep kk (win_imm x0))
              rw [immAll_iff]
              intro d hd
              obtain ⟨w1, _, rfl⟩ := List.mem_map.mp hd
              exact win_imm w1
            · rintro J3 ⟨s3, _, xs, hx, lx, dx⟩
              refine ⟨_, rfl, _, rfl, _, rfl, D, xs, rfl, hx, fun l3 hl3 => ?_⟩
              rw [cut_one]
              have nD3 : D ≠ l3 := ne_of_none hx hl3
              have lc : (col wss j wss.length).length = wss.length := by simp [col]
              have gx : ∀ x ∈ col wss j wss.length, WinB x := fun x hm => by
                obtain ⟨k, hk⟩ := List.getElem?_of_mem hm
                obtain ⟨v, hv, rfl⟩ := col_get hk
                obtain ⟨⟨lv, _⟩, bv⟩ := g2 v (List.mem_of_getElem? hv)
                have lj2 : j < v.length := by rw [lv]; exact lj
                rw [List.getD_eq_getElem?_getD, List.getElem?_eq_getElem lj2]
                exact bv _ (List.getElem_mem _)
              have gr : ∀ k a b, (col wss j wss.length)[k]? = some a → (col wss j wss.length)[k + 1]? = some b → risesB a b = true := fun k a b h1 h2 => by
                obtain ⟨v, hv, rfl⟩ := col_get h1
                obtain ⟨v2, hv2, rfl⟩ := col_get h2
                obtain ⟨⟨lv, _⟩, _⟩ := g2 v (List.mem_of_getElem? hv)
                obtain ⟨⟨lv2, _⟩, _⟩ := g2 v2 (List.mem_of_getElem? hv2)
                have q1 : j < v.length := by rw [lv]; exact lj
                have q2 : j < v2.length := by rw [lv2]; exact lj
                rw [List.getD_eq_getElem?_getD, List.getElem?_eq_getElem q1, List.getD_eq_getElem?_getD, List.getElem?_eq_getElem q2]
                exact g3 k j v v2 _ _ hv hv2 (List.getElem?_eq_getElem q1) (List.getElem?_eq_getElem q2)
              generalize col wss j wss.length = cl at *
              refine ⟨D, l3, xs, xs.tail, rfl, SqL.of (by rw [upd_ne nD3]; exact hx), SqL.of upd_same, fun D2 hD2 => ?_⟩
              have s4 := new_same (o := .lst xs.tail) hl3
              have dx4 := dx.mono s4
              have hx4 : (upd J3 l3 (.lst xs.tail)) D = some (.lst xs) := s4 _ _ hx
              have hl4 : (upd J3 l3 (.lst xs.tail)) l3 = some (.lst xs.tail) := upd_same
              have s24 := same_trans s3 s4
              generalize upd J3 l3 (.lst xs.tail) = J4 at s4 dx4 hx4 hl4 hD2 s24
              refine lc_it (walk_zip (xs := xs) (ys := xs.tail) (n := xs.length - 1) (by simp)) (fun k J5 => Same J4 J5 ∧ J5 D2 = some (.lst (List.replicate k (V.bl false)))) ⟨new_same hD2, upd_same⟩ (fun k J5 _ h => ⟨SqL.of (h.1 _ _ hx4), SqL.of (h.1 _ _ hl4)⟩) ?_ ?_
              · rintro k v J5 J6 hk ⟨s5, j5⟩ ⟨T0, e1, e2, rfl, hT, rfl, h1, h2⟩
                dsimp only at h1 h2
                rw [List.getElem?_tail] at h2
                have s6 := same_new (o := .tup [e1, e2]) s5 hT
                obtain ⟨d1, hd1, dd1⟩ := dx4.get' h1
                obtain ⟨d2, hd2, dd2⟩ := dx4.get' h2
                rw [List.getElem?_map] at hd1 hd2
                cases ha : cl[k]? with
                | none => rw [ha] at hd1; cases hd1
                | some a =>
                  cases hb2 : cl[k + 1]? with
                  | none => rw [hb2] at hd2; cases hd2
                  | some b =>
                    rw [ha] at hd1
                    rw [hb2] at hd2
                    cases hd1
                    cases hd2
                    have nDT : D2 ≠ T0 := ne_of_none j5 hT
                    refine ⟨T0, _, rfl, SqT.of upd_same, rfl, _, _, rfl, _, _, rfl, rfl, rfl, yesT ?_⟩
                    refine ⟨_, rfl, _, rfl, e1, e2, a, b, rfl, dd1.mono s6, dd2.mono s6, _, by rw [upd_ne nDT]; exact j5, ?_, same_put s6 hD2, ?_⟩
                    · rw [List.length_replicate, sizeLine_eq]
                      omega
                    · rw [upd_same, falls_rises (gx a (List.mem_of_getElem? ha)) (gx b (List.mem_of_getElem? hb2)), gr k a b ha hb2]
                      exact congrArg (fun l => some (HO.lst l)) (List.replicate_succ' (n := k) (a := V.bl false)).symm
              · rintro J5 ⟨s5, j5⟩
                refine ⟨D2, _, rfl, j5, rfl, flat_rep _ _, ?_⟩
                rw [if_neg (by decide), inV_false]
                refine ⟨_, rfl, iteF ?_⟩
                have s25 := same_trans s24 s5
                exact ⟨same_trans sJ2 s25, s25 _ _ jl2, _, _, _, _, _, rfl⟩
        · rintro σ J2 ⟨sJ2, jl2, y, z, k1, k2, k3, rfl⟩
          exact ⟨same_trans sJ sJ2, sJ2 _ _ jl, _, _, _, _, _, _, rfl⟩
    · rintro σ J ⟨sJ, _⟩
      exact q J sJ
end
end N23
set_option maxHeartbeats 1000000
namespace N23
open PySem PySem.Spec PyProof.Rows L2 G
theorem CatAt.ext {C : Addr} {H H' : Hp} {c r : Addr} {A : CAd} {M : Cat} (X : CatAt C H c A M) (R : Rng H r) (n : r ∉ dom c A) (e : G.Ext r H H') : CatAt C H' c A M :=
  X.keep (.ext R e) fun q m o h => e q o (fun z => n (z ▸ m)) h
def flOf (wss : List Ver) (ws : Ver) : List Bool := match wss.getLast? with
  | none => []
  | some l => List.zipWith fallsB l ws
theorem fl_none : ∀ {u : List Str} {l ws : Ver}, l.length = u.length → ws.length = u.length → (∀ x ∈ l, WinB x) → (∀ x ∈ ws, WinB x) → fallIn u l ws = none → ∀ b ∈ List.zipWith fallsB l ws, b = false
  | [], [], _, _, _, _, _, _, b, hb => by simp at hb
  | [], _ :: _, _, h, _, _, _, _, _, _ => by simp at h
  | _ :: _, [], _, h, _, _, _, _, _, _ => by simp at h
  | _ :: _, _ :: _, [], _, h, _, _, _, _, _ => by simp at h
  | z :: u, x :: l, y :: ws, h1, h2, w1, w2, h, b, hb => by
    rw [fallIn] at h
    split at h
    · rename_i hr
      rw [List.zipWith_cons_cons] at hb
      rcases List.mem_cons.mp hb with rfl | hb
      · rw [falls_rises (w1 x (by simp)) (w2 y (by simp)), hr]
        rfl
      · exact fl_none (u := u) (by simpa using h1) (by simpa using h2) (fun x hx => w1 x (by simp [hx])) (fun x hx => w2 x (by simp [hx])) h b hb
    · cases h
theorem fl_some : ∀ {u : List Str} {l ws : Ver} {s : Str}, l.length = u.length → ws.length = u.length → (∀ x ∈ l, WinB x) → (∀ x ∈ ws, WinB x) → fallIn u l ws = some s →
    ∃ k : Nat, (List.zipWith fallsB l ws)[k]? = some true ∧ (∀ m, m < k → (List.zipWith fallsB l ws)[m]? = some false) ∧ u[k]? = some s
  | [], _, _, _, _, _, _, _, h => by simp [fallIn] at h
  | _ :: _, [], _, _, h, _, _, _, _ => by simp at h
  | _ :: _, _ :: _, [], _, _, h, _, _, _ => by simp at h
  | z :: u, x :: l, y :: ws, s, h1, h2, w1, w2, h => by
    rw [fallIn] at h
    split at h
    · rename_i hr
      obtain ⟨k, a, b, c⟩ := fl_some (u := u) (by simpa using h1) (by simpa using h2) (fun x hx => w1 x (by simp [hx])) (fun x hx => w2 x (by simp [hx])) h
      refine ⟨k + 1, by simpa using a, fun m lt => ?_, by simpa using c⟩
      cases m with
      | zero =>
        rw [List.zipWith_cons_cons, falls_rises (w1 x (by simp)) (w2 y (by simp)), hr]
        rfl
      | succ m => simpa using b m (by omega)
    · rename_i hr
      cases h
      refine ⟨0, ?_, fun m lt => by omega, rfl⟩
      rw [List.zipWith_cons_cons, falls_rises (w1 x (by simp)) (w2 y (by simp)), Bool.eq_false_iff.mpr hr]
      rfl
theorem fl_rise : ∀ {u : List Str} {l ws : Ver}, l.length = u.length → ws.length = u.length → fallIn u l ws = none → ∀ (j : Nat) (a b : Win), l[j]? = some a → ws[j]? = some b → risesB a b = true
  | [], [], _, _, _, _, j, _, _, ha, _ => by simp at ha
  | [], _ :: _, _, h, _, _, _, _, _, _, _ => by simp at h
  | _ :: _, [], _, h, _, _, _, _, _, _, _ => by simp at h
  | _ :: _, _ :: _, [], _, h, _, _, _, _, _, _ => by simp at h
  | z :: u, x :: l, y :: ws, h1, h2, h, j, a, b, ha, hb => by
    rw [fallIn] at h
    split at h
    · rename_i hr
      cases j with
      | zero =>
        simp at ha hb
        subst ha
        subst hb
        exact hr
      | succ j => exact fl_rise (u := u) (by simpa using h1) (by simpa using h2) h j a b (by simpa using ha) (by simpa using hb)
    · cases h
theorem inV_bl (fl : List Bool) : inV (.bl true) (fl.map V.bl) = decide (true ∈ fl) := by
  induction fl with
  | nil => rfl
  | cons b fl ih =>
    unfold inV at ih ⊢
    rw [List.map_cons, List.any_cons, ih]
    cases b with
    | true => simp [eqV]
    | false =>
      have e : eqV (.bl false) (.bl true) = false := by decide +kernel
      rw [e]
      simp
theorem flat_bls (fl : List Bool) : (fl.map V.bl).all flatV = true := by
  rw [List.all_eq_true]
  intro x hx
  obtain ⟨b, _, rfl⟩ := List.mem_map.mp hx
  rfl
theorem wins_imm (ws : Ver) : immAll (ws.map winD) = true := by
  rw [immAll_iff]
  intro d hd
  obtain ⟨w1, _, rfl⟩ := List.mem_map.mp hd
  exact win_imm w1
theorem Good.publish {M : Cat} {i : Nat} {z : Str} {u : List Str} {wss : List Ver} {bs : List Bool} {ws : Ver} (g : Good M) (hi : M.us[i]? = some u) (hb : M.pb[i]? = some wss) (hr : M.pr[i]? = some bs) (vo : VerOk u ws) (wb : ∀ x ∈ ws, WinB x)
    (l16 : wss.length < 16) (fn : fallOf u wss ws = none) : Good (M.publish i z wss bs ws) where
  g := fun i2 u2 wss2 h1 h2 => by
    have h1 : M.us[i2]? = some u2 := h1
    have h2 : (M.pb.set i (wss ++ [ws]))[i2]? = some wss2 := h2
    rcases set_get h2 with ⟨rfl, rfl⟩ | ⟨_, h2⟩
    · rw [hi] at h1
      cases h1
      obtain ⟨g1, g2, g3⟩ := g.g _ _ _ hi hb
      refine ⟨by simp; omega, fun v hv => ?_, fun n j v v2 a b e1 e2 e3 e4 => ?_⟩
      · rcases List.mem_append.mp hv with hv | hv
        · exact g2 v hv
        · rw [List.mem_singleton.mp hv]
          exact ⟨vo, wb⟩
      · by_cases lt : n + 1 < wss.length
        · rw [List.getElem?_append_left (by omega)] at e1
          rw [List.getElem?_append_left lt] at e2
          exact g3 n j v v2 a b e1 e2 e3 e4
        · have l2 := (List.getElem?_eq_some_iff.mp e2).1
          simp at l2
          have en : n + 1 = wss.length := by omega
          rw [List.getElem?_append_left (by omega)] at e1
          rw [List.getElem?_append_right (by omega), en] at e2
          simp at e2
          subst e2
          have el : wss.getLast? = some v := by
            rw [List.getLast?_eq_getElem?, ← en]
            exact e1
          have fn2 : fallIn u v ws = none := by
            unfold fallOf at fn
            rw [el] at fn
            exact fn
          exact fl_rise (g2 v (List.mem_of_getElem? e1)).1.1 vo.1 fn2 j a b e3 e4
    · exact g.g i2 u2 wss2 h1 h2
  r := fun i2 wss2 bs2 h1 h2 => by
    have h1 : (M.pb.set i (wss ++ [ws]))[i2]? = some wss2 := h1
    have h2 : (M.pr.set i (bs ++ [true]))[i2]? = some bs2 := h2
    rcases set_get h1 with ⟨rfl, rfl⟩ | ⟨n1, h1⟩
    · rcases set_get h2 with ⟨_, rfl⟩ | ⟨n2, _⟩
      · simp [g.r _ _ _ hb hr]
      · exact absurd rfl n2
    · rcases set_get h2 with ⟨e, _⟩ | ⟨_, h2⟩
      · exact absurd e n1
      · exact g.r i2 wss2 bs2 h1 h2
theorem Good.withdraw {M : Cat} {i n : Nat} {z : Str} {bs : List Bool} (g : Good M) (hr : M.pr[i]? = some bs) : Good (M.withdraw i n z bs) where
  g := fun i2 u2 wss2 h1 h2 => g.g i2 u2 wss2 h1 h2
  r := fun i2 wss2 bs2 h1 h2 => by
    have h1 : M.pb[i2]? = some wss2 := h1
    have h2 : (M.pr.set i (bs.set n false))[i2]? = some bs2 := h2
    rcases set_get h2 with ⟨rfl, rfl⟩ | ⟨_, h2⟩
    · rw [List.length_set]
      exact g.r _ _ _ h1 hr
    · exact g.r i2 wss2 bs2 h1 h2
theorem Good.new (ns : List Str) (us : List (List Str)) : Good (Cat.new ns us) where
  g := fun i u wss _ h => by
    have h : (ns.map fun _ => ([] : List Ver))[i]? = some wss := h
    rw [List.getElem?_map] at h
    cases hn : ns[i]? with
    | none => rw [hn] at h; cases h
    | some z =>
      rw [hn] at h
      cases h
      refine ⟨Nat.zero_le _, ?_, ?_⟩
      · intro v hv
        simp at hv
      · intro n j v v2 a b e1
        simp at e1
  r := fun i wss bs h1 h2 => by
    have h1 : (ns.map fun _ => ([] : List Ver))[i]? = some wss := h1
    have h2 : (ns.map fun _ => ([] : List Bool))[i]? = some bs := h2
    rw [List.getElem?_map] at h1 h2
    cases hn : ns[i]? with
    | none => rw [hn] at h1; cases h1
    | some z =>
      rw [hn] at h1 h2
      cases h1
      cases h2
      rfl
end N23
set_option maxHeartbeats 1000000
namespace N23
open PySem PySem.Spec PyProof.Rows L2 G
def spTurn (C : Addr) : Sp := fun vs H Q _ => ∃ (r c : Addr) (A : CAd) (M : Cat) (t : Int), vs = [.ref r, .ref c, .int t] ∧ Rng H r ∧ r ∉ dom c A ∧ CatAt C H c A M ∧ Good M ∧ 0 ≤ t ∧ t < 60 ∧ M.ev.length ≤ 99999 ∧
  ∀ (H' : Hp) (M2 : Cat), Rng H' r → Fr (r :: A.aE :: (A.ps ++ A.qs)) H H' → CatAt C H' c A M2 → Good M2 → M2.ns = M.ns → M2.us = M.us → M2.ev.length ≤ M.ev.length + 1 → Q (.bl true) H'
theorem CatAt.fresh {C : Addr} {H : Hp} {c q : Addr} {A : CAd} {M : Cat} (X : CatAt C H c A M) (hn : H q = none) : q ∉ (A.aE :: (A.ps ++ A.qs)) := fun m => by
  rcases List.mem_cons.mp m with e | m
  · obtain ⟨es, hE, _⟩ := X.e
    rw [e] at hn
    rw [hn] at hE
    cases hE
  · rcases List.mem_append.mp m with m | m
    · obtain ⟨k, hk⟩ := List.getElem?_of_mem m
      have lk : k < M.pb.length := by rw [X.lb, ← X.lp]; exact (List.getElem?_eq_some_iff.mp hk).1
      obtain ⟨ys, hy, _⟩ := X.pl k q _ hk (List.getElem?_eq_getElem lk)
      rw [hn] at hy
      cases hy
    · obtain ⟨k, hk⟩ := List.getElem?_of_mem m
      have lk : k < M.pr.length := by rw [X.lr, ← X.lq]; exact (List.getElem?_eq_some_iff.mp hk).1
      have hy := X.rl k q _ hk (List.getElem?_eq_getElem lk)
      rw [hn] at hy
      cases hy
theorem wins_lay (ws : Ver) : SeqAt.shaped (.list (ws.map winD)) = true ∧ (PyData.list (ws.map winD)).canLay0 = true := by
  have h1 : PyData.canLayAll0 (ws.map winD) = true := lay_all fun d hd => by
    obtain ⟨w, _, rfl⟩ := List.mem_map.mp hd
    exact (win_lay w).1
  refine ⟨?_, h1⟩
  unfold SeqAt.shaped
  rw [Bool.and_eq_true]
  refine ⟨h1, decide_eq_true ?_⟩
  show PyData.depthAll (ws.map winD) + 1 ≤ 64
  have := dep_all (ds := ws.map winD) (n := 1) fun d hd => by
    obtain ⟨w, _, rfl⟩ := List.mem_map.mp hd
    exact (win_lay w).2
  omega
section
variable {P : Program} {w : World} {K : PySem.W.Frag} {mg : Str → Option Value} {base : Heap} {C CN : Addr}
theorem sc_turn : FnScope ["_law_rng_here", "_law_catalog", "_law_turn_here", "_law_name_here", "_law_before", "_law_many", "_law_uses", "_law_some", "_law_falls_here", "_law_told_here", "_law_used", "_law_one"] ["_law_rng_here", "_law_catalog", "_law_turn_here"] (defScope sTurn) :=
  ⟨rfl, rfl, rfl, by decide +kernel, rfl, by decide +kernel, by decide +kernel⟩
theorem d_turn (F : Df K mg "_law_turn" sTurn ["_law_rng_here", "_law_catalog", "_law_turn_here"]) (T : Txt mg) (TC : CatC K mg C) (M_modules : Mn P w K mg base CX0 1 C "modules" ["self"] (spModules C)) (M_uses : Mn P w K mg base CX0 3 C "uses" ["self", "module"] (spUses C)) (M_versions : Mn P w K mg base CX0 3 C "versions" ["self", "module"] (spVersions C)) (M_window : Mn P w K mg base CX0 3 C "window" ["self", "user", "used", "version"] (spWindow C)) (M_clone : Mn P w K mg base CX0 6 C "clone" ["self"] (spClone C)) (M_eq : Mn P w K mg base CX0 1 C "__eq__" ["self", "other"] (spEq C)) (DC : Dn P w K mg base CX0 2 "_law_choice" ["_law_rng_here", "_law_options"] (spChoice K)) (DF : Dn P w K mg base CX0 2 "_law_falls" ["_law_one", "_law_other"] spFalls) (DR : Dn P w K mg base CX0 2 "_law_drawn" ["_law_rng_here", "_law_reach"] spDrawn) (DT : Gn P w K mg base CX0 7 "_law_told" ["_law_catalog", "_law_name_here", "_law_some"] (spTold C)) : Gn P w K mg base CX0 8 "_law_turn" ["_law_rng_here", "_law_catalog", "_law_turn_here"] (spTurn C) := by
  obtain ⟨fE, fdE, FE, mE, bE⟩ := M_eq.ex
  refine F.okG sc_turn (fun vs H Q E h => ?_) (fun f cdv A0 outer s H vs Q E gd hr h => ?_)
  · obtain ⟨r, c, A, M, t, rfl, _⟩ := h
    rfl
  · obtain ⟨r, c, A, M, t, rfl, R, rd, X, g, t0, t60, lev, q⟩ := h
    have hu := hu_of hr
    refine ⟨_, (pss_cons (ps_asg (pe_tup (pa_cons (pe_cD DC hr pass0 (pa_cons (pv 0) (pa_cons (pe_mD0 (pv 1) TC.cl M_modules hr pass0) pa_nil))) (pa_cons (pe_mD0 (pv 1) TC.cl M_clone hr pass0) pa_nil))) (pg_tup rfl (pgs_cons (pg_name (i := 3) sc_turn.nd rfl (Or.inr rfl)) (pgs_cons (pg_name (i := 4) sc_turn.nd rfl (Or.inl rfl)) pgs_nil))))
      (pss_cons (ps_asg (pe_tup (pa_cons (pe_mD (pv 1) TC.cl M_versions hr pass0 (pa_cons (pv 3) pa_nil)) (pa_cons (pe_mD (pv 1) TC.cl M_uses hr pass0 (pa_cons (pv 3) pa_nil)) pa_nil))) (pg_tup rfl (pgs_cons (pg_name (i := 5) sc_turn.nd rfl (Or.inr rfl)) (pgs_cons (pg_name (i := 6) sc_turn.nd rfl (Or.inl rfl)) pgs_nil))))
      (pss_cons (ps_setLc (i := 7) (own := [("_law_used", 10)]) (g := (gName 10)) (tt := tYes) rfl sc_turn.nd rfl rfl (sw_true rfl rfl rfl (by decide +kernel)) (pi_list (pv 6)) (blkOk_by (own := [("_law_used", 10)]) (N := ["_law_rng_here", "_law_catalog", "_law_turn_here", "_law_name_here", "_law_before", "_law_many", "_law_uses", "_law_some", "_law_falls_here", "_law_told_here", "_law_used", "_law_one"]) (sc := defScope sTurn) (by decide +kernel)) (fun _ _ _ _ _ => (pg_name (i := 10) sc_turn.nd rfl (Or.inl rfl))) (fun _ _ _ _ _ => pts_nil) (fun _ _ _ _ _ => (pe_cD DR hr pass0 (pa_cons (pv 0) (pa_cons (pe_op op_add pe_int (pe_op op_fdiv (pv 2) pe_int)) pa_nil)))))
      (pss_cons (ps_set (i := 8) sc_turn.nd rfl (Or.inl rfl) (pe_lst pa_nil))
      (pss_cut (ps_if (pt_cmpR op_gt (pv 5) pe_int (nomark _)) (pss_one (ps_setLc (i := 8) (own := [("_law_used", 10), ("_law_one", 11)]) (g := (gTup K 2 (gCons (gName 10) (gCons (gName 11) gNil)))) (tt := tYes) rfl sc_turn.nd rfl rfl (sw_true rfl rfl rfl (by decide +kernel)) (pi_zip (by rfl) T.zip (pa_cons (pv 6) (pa_cons (pv 7) pa_nil))) (blkOk_by (own := [("_law_used", 10), ("_law_one", 11)]) (N := ["_law_rng_here", "_law_catalog", "_law_turn_here", "_law_name_here", "_law_before", "_law_many", "_law_uses", "_law_some", "_law_falls_here", "_law_told_here", "_law_used", "_law_one"]) (sc := defScope sTurn) (by decide +kernel)) (fun _ _ _ _ _ => (pg_tup rfl (pgs_cons (pg_name (i := 10) sc_turn.nd rfl (Or.inl rfl)) (pgs_cons (pg_name (i := 11) sc_turn.nd rfl (Or.inl rfl)) pgs_nil)))) (fun _ _ _ _ _ => pts_nil) (fun _ _ _ _ _ => (pe_cD DF hr pass0 (pa_cons (pe_mD (pv 1) TC.cl M_window hr pass0 (pa_cons (pv 3) (pa_cons (pv 10) (pa_cons (pe_op op_sub (pv 5) pe_int) pa_nil)))) (pa_cons (pv 11) pa_nil)))))) pss_nil)
      (pss_cons (ps_if (pt_cmpR op_gt (pv 5) pe_int (nomark _)) (pss_one (ps_ret pe_bl)) pss_nil)
      (pss_cons (ps_set (i := 9) sc_turn.nd rfl (Or.inl rfl) (pe_cG DT gd hr pass0 (pa_cons (pv 1) (pa_cons (pv 3) (pa_cons (pv 7) pa_nil)))))
      (pss_cons (ps_if (pt_cmpR inL pe_bl (pv 8) (by rfl)) (pss_one (ps_ret (pe_and (pe_cmpR op_eq (pv 9) (pe_callB (call_rep gd hr.units) (by rfl) T.repr (by decide +kernel) (pa_cons (pe_tup (pa_cons (pv 3) (pa_cons (pe_ix ixL (pv 6) (pe_bl PySem.F.plainAttrs_list PySem.F.slot_list_index PySem.F.type_list_index idxL (pv 8) (pa_cons pe_bl pa_nil)) (fun _ _ => rfl)) pa_nil))) pa_nil)) (nomark _)) (pe_one (pe_cmpR (op_ownEq FE (hr.mono (by decide)) mE.at_ mE.fn bE pass0) (pv 1) (pv 4) (nomark _)))))) pss_nil)
      (pss_cons (ps_if (PW.pt (pw_or (pt_cmpR op_ne (pv 9) (pe_callB (call_rep gd hr.units) (by rfl) T.repr (by decide +kernel) (pa_cons (pv 5) pa_nil)) (nomark _)) (pw_or (pt_cmpR (op_ownEq FE (hr.mono (by decide)) mE.at_ mE.fn bE pass0) (pv 1) (pv 4) (nomark _)) (pw_or1 (pt_cmpR op_ne (pe_mD (pv 1) TC.cl M_versions hr pass0 (pa_cons (pv 3) pa_nil)) (pe_op op_add (pv 5) pe_int) (nomark _)))))) (pss_one (ps_ret pe_bl)) pss_nil)
      (pss_one (ps_ret (pe_cmpR (op_eqD hr.units) (pe_lc (own := [("_law_used", 10)]) (g := (gName 10)) (tt := tYes) rfl sc_turn.nd (pi_list (pv 6)) (blkOk_by (own := [("_law_used", 10)]) (N := ["_law_rng_here", "_law_catalog", "_law_turn_here", "_law_name_here", "_law_before", "_law_many", "_law_uses", "_law_some", "_law_falls_here", "_law_told_here", "_law_used", "_law_one"]) (sc := defScope sTurn) (by decide +kernel)) (fun _ _ _ _ _ => (pg_name (i := 10) sc_turn.nd rfl (Or.inl rfl))) (fun _ _ _ _ _ => pts_nil) (fun _ _ _ _ _ => (pe_mD (pv 1) TC.cl M_window hr pass0 (pa_cons (pv 3) (pa_cons (pv 10) (pa_cons (pv 5) pa_nil)))))) (pv 7) (nomark _))))))))))))), ?_⟩
    -- name_here, before
    refine ⟨_, rfl, _, rfl, c, _, _, rfl, X.o, rfl, c, A, M, rfl, X, fun l1 hl1 => ?_⟩
    have lns : (M.ns.map V.str).length = M.ns.length := List.length_map ..
    have n0 := X.uk.ne
    have n1 := X.uk.le
    refine ⟨r, l1, _, rfl, R.new hl1, SqL.of upd_same, (R.free hl1).symm, by omega, by omega, fun v H2 E2 R2 mv => ?_⟩
    obtain ⟨z, mz, rfl⟩ := List.mem_map.mp mv
    obtain ⟨i, hz⟩ := List.getElem?_of_mem mz
    obtain ⟨u, wss, bs, hi, hb, hr0⟩ := X.row hz
    obtain ⟨g1, g2, g3⟩ := g.g i u wss hi hb
    have lbs := g.r i wss bs hb hr0
    have E2' : G.Ext r H H2 := (Ext.new hl1).trans E2
    have X2 := X.ext R rd E2'
    refine ⟨_, rfl, c, _, _, rfl, X2.o, rfl, c, A, M, rfl, X2, fun c2 A2 H3 s3 Y3 nw => ?_⟩
    refine ⟨(by show 2 ≤ sizeLine; decide), fun t1 ht1 => ?_⟩
    refine ⟨t1, _, rfl, SqT.of upd_same, rfl, _, _, rfl, _, _, rfl, rfl, ?_⟩
    have s4 := same_new (o := .tup [.str z, .ref c2]) s3 ht1
    have R4 := R2.same s4
    have E4 : G.Ext r H (upd H3 t1 (.tup [.str z, .ref c2])) := E2'.trans (.of s4)
    have X4 := X2.same s4
    have Y4 := Y3.same (new_same (o := .tup [.str z, .ref c2]) ht1)
    have nw4 : ∀ q ∈ dom c2 A2, H q = none := fun q m => E2'.none (fun e => by have := nw q m; rw [e] at this; obtain ⟨x, y, h, _⟩ := R2; rw [h] at this; cases this) (nw q m)
    generalize upd H3 t1 (.tup [.str z, .ref c2]) = H4 at R4 E4 X4 Y4
    -- many, uses
    refine ⟨_, rfl, c, _, _, rfl, X4.o, rfl, _, rfl, c, A, M, z, i, wss, rfl, X4, hz, hb, ?_⟩
    refine ⟨_, rfl, c, _, _, rfl, X4.o, rfl, _, rfl, c, A, M, z, i, u, rfl, X4, hz, hi, fun l5 hl5 => ?_⟩
    refine ⟨(by show 2 ≤ sizeLine; decide), fun t5 ht5 => ?_⟩
    refine ⟨t5, _, rfl, SqT.of upd_same, rfl, _, _, rfl, _, _, rfl, rfl, ?_⟩
    have n5 : l5 ≠ t5 := ne_of_none upd_same ht5
    have s5 := same_new (o := .tup [.int (wss.length : Nat), .ref l5]) (new_same (o := .lst (u.map V.str)) hl5) ht5
    have R5 := R4.same s5
    have E5 := E4.trans (.of s5)
    have X5 := X4.same s5
    have Y5 := Y4.same s5
    have h5 : (upd (upd H4 l5 (.lst (u.map V.str))) t5 (.tup [.int (wss.length : Nat), .ref l5])) l5 = some (.lst (u.map V.str)) := by rw [upd_ne n5, upd_same]
    generalize upd (upd H4 l5 (.lst (u.map V.str))) t5 (.tup [.int (wss.length : Nat), .ref l5]) = H5 at R5 E5 X5 Y5 h5
    have nl5 : l5 ≠ r := fun e => by
      have := R4.free hl5
      exact this e.symm
    -- some
    refine ⟨_, rfl, l5, rfl, ⟨_, SqL.of h5⟩, fun D hD => ?_⟩
    have nrD := R5.free hD
    refine lc_list (K := K) (a := l5) (xs := u.map V.str) (fun k J => G.Ext r H5 J ∧ Rng J r ∧ ∃ xs ws, J D = some (.lst xs) ∧ xs.length = k ∧ ws.length = k ∧ DaAll J xs (ws.map winD) ∧ ∀ x ∈ ws, WinOk x ∧ WinB x)
      ⟨Ext.new hD, R5.new hD, [], [], upd_same, rfl, rfl, .nil, fun _ h => by cases h⟩ (fun k J _ h => SqL.of (h.1 _ _ nl5 h5)) ?_ ?_
    · rintro k x J hx ⟨EJ, RJ, xs, ws, jD, lx, lw, dx, wk⟩
      have lk := (List.getElem?_eq_some_iff.mp hx).1
      rw [List.length_map] at lk
      have lu := X.uk.len hi
      refine ⟨rfl, yesT ?_⟩
      refine ⟨_, rfl, _, rfl, _, _, rfl, rfl, ⟨by decide, by decide⟩, _, _, rfl, rfl, r, _, rfl, RJ, ?_, ?_, fun tt x J2 E2 R2 ht nt hx ok bd => ?_⟩
      · show (0 : Int) < 2 + t / 4
        omega
      · show 2 + t / 4 ≤ (1000 : Int)
        omega
      have j2 := E2 _ _ nrD.symm jD
      have kk := (G.KT.ext RJ E2).trans (G.KT.put (o' := .lst (xs ++ [.ref tt])) j2 rfl)
      have nDt : D ≠ tt := ne_of_none jD ht
      refine ⟨xs, j2, (by rw [lx, sizeLine_eq]; omega), ext_put (EJ.trans E2) hD, R2.put nrD.symm, xs ++ [.ref tt], ws ++ [x], upd_same, by simp [lx], by simp [lw], ?_, ?_⟩
      · rw [List.map_append]
        exact (dx.keep kk (wins_imm ws)).snoc (win_of (by rw [upd_ne nDt.symm]; exact hx))
      · intro y hy
        rcases List.mem_append.mp hy with hy | hy
        · exact wk y hy
        · rw [List.mem_singleton.mp hy]
          exact ⟨ok, bd⟩
    rintro H6 ⟨E6, R6, xs, ws, hD6, lx, lw, dx, wk⟩
    rw [List.length_map] at lx lw
    have wk1 : VerOk u ws := ⟨lw, fun x hx => (wk x hx).1⟩
    have wk2 : ∀ x ∈ ws, WinB x := fun x hx => (wk x hx).2
    have rd2 : r ∉ dom c2 A2 := fun m => by
      have := nw4 r m
      obtain ⟨x, y, h, _⟩ := R
      rw [h] at this
      cases this
    have X6 := X5.ext R5 rd E6
    have Y6 := Y5.ext R5 rd2 E6
    have h6 := E6 _ _ nl5 h5
    have E06 := E5.trans E6
    have nD5 : D ≠ l5 := (ne_of_none h5 hD).symm
    have nDS : D ∉ (A.aE :: (A.ps ++ A.qs)) := X5.fresh hD
    have n5S : l5 ∉ (A.aE :: (A.ps ++ A.qs)) := X4.fresh hl5
    have npS : ∀ p, H6 p = none → p ∉ (A.aE :: (A.ps ++ A.qs)) := fun p hp => X6.fresh hp
    have nrS : r ∉ (A.aE :: (A.ps ++ A.qs)) := fun m => rd (List.mem_cons_of_mem _ (List.mem_cons_of_mem _ (List.mem_cons_of_mem _ (List.mem_cons_of_mem _ (List.mem_cons_of_mem _ m)))))
    have n2S : ∀ q ∈ dom c2 A2, q ∉ (A.aE :: (A.ps ++ A.qs)) := fun q m => X.fresh (nw4 q m)
    -- falls_here = []
    refine ⟨Nat.zero_le _, fun p hp => ?_⟩
    have npD : D ≠ p := ne_of_none hD6 hp
    have np5 : l5 ≠ p := ne_of_none h6 hp
    have E7 : G.Ext r H6 (upd H6 p (.lst [])) := Ext.new hp
    have R7 := R6.new (o := .lst []) hp
    have s7 := new_same (o := .lst []) hp
    -- if many > 0
    refine ⟨fun σ J => Same H6 J ∧ ∃ f x1 x2, σ = [some (.ref r), some (.ref c), some (.int t), some (.str z), some (.ref c2), some (.int (wss.length : Nat)), some (.ref l5), some (.ref D), some (.ref f), none, x1, x2] ∧ f ∉ (A.aE :: (A.ps ++ A.qs)) ∧ J f = some (.lst ((flOf wss ws).map V.bl)), ?_, ?_⟩
    · rintro σ J ⟨sJ, f, x1, x2, rfl, nfS, hf⟩
      have RJ := R6.same sJ
      have XJ := X6.same sJ
      have YJ := Y6.same sJ
      have E0J := E06.trans (.of sJ)
      have hDJ := sJ _ _ hD6
      have h5J := sJ _ _ h6
      have dxJ := dx.mono sJ
      -- if many > 15
      refine ⟨_, rfl, _, _, rfl, rfl, _, rfl, ?_⟩
      refine ite2 (fun h1 => ?_) (fun h1 => ?_)
      · exact q J M RJ ((Fr.ext E0J).mono (by simp)) XJ g rfl rfl (by omega)
      · have l16 : wss.length < 16 := by
          have : ¬ ((wss.length : Int) > 15) := fun z => h1 (decide_eq_true z)
          omega
        refine ⟨_, rfl, _, rfl, _, rfl, c, A, M, z, i, u, wss, bs, D, xs, ws, rfl, XJ, hz, hi, hb, hr0, hDJ, nDS, dxJ, wk1, fun v hv => (g2 v hv).1, l16, by omega, by omega, fun fn H' f' k' X' => ?_, fun y fy H' s' => ?_⟩
        · -- it rises
          have fl0 : true ∉ flOf wss ws := fun m => by
            unfold flOf at m
            unfold fallOf at fn
            cases hL : wss.getLast? with
            | none => rw [hL] at m; cases m
            | some l =>
              rw [hL] at m fn
              have ml := List.mem_of_getLast? hL
              have := fl_none (u := u) (g2 l ml).1.1 lw (g2 l ml).2 wk2 fn true m
              cases this
          have R' : Rng H' r := by
            obtain ⟨a, b, h, hh⟩ := RJ
            exact ⟨a, b, f' _ _ nrS h, hh⟩
          have Y' : CatAt C H' c2 A2 M := YJ.keep k' fun q m o h => f' q o (n2S q m) h
          have h5' := f' _ _ n5S h5J
          have hD' := f' _ _ nDS hDJ
          have dx' := dxJ.keep k' (wins_imm ws)
          have hb' : (M.publish i z wss bs ws).pb[i]? = some (wss ++ [ws]) := by
            show (M.pb.set i (wss ++ [ws]))[i]? = _
            rw [List.getElem?_set_self (List.getElem?_eq_some_iff.mp hb).1]
          refine ⟨_, rfl, f, _, rfl, f' _ _ nfS hf, rfl, flat_bls _, ?_⟩
          rw [if_neg (by decide), inV_bl, decide_eq_false fl0]
          refine ⟨_, rfl, iteF ?_⟩
          refine ⟨_, rfl, _, rfl, _, _, rfl, .int _, okd_nat (by omega), rfl, _, rfl, ?_⟩
          rw [show (!decide (V.str (PyData.int (wss.length : Nat)).shown = V.str (PyData.int (wss.length : Nat)).shown)) = false from by rw [decide_eq_true rfl]; rfl]
          refine iteF ?_
          refine ⟨_, rfl, _, rfl, c, c2, _, _, _, _, rfl, rfl, X'.o, Y'.o, c, A, _, c2, A2, M, rfl, X', Y', rfl, rfl, _, rfl, _, rfl, ?_⟩
          rw [decide_eq_false (p := (M.publish i z wss bs ws).pb = M.pb) (fun e => by
            rw [e, hb] at hb'
            have := congrArg List.length (Option.some.inj hb')
            simp at this), Bool.false_and]
          refine iteF ?_
          refine ⟨_, rfl, c, _, _, rfl, X'.o, rfl, _, rfl, c, A, _, z, i, wss ++ [ws], rfl, X', hz, hb', _, rfl, _, _, rfl, rfl, rfl, _, rfl, ?_⟩
          rw [show (!decide (V.int ((wss ++ [ws]).length : Nat) = V.int ((wss.length : Nat) + 1))) = false from by rw [decide_eq_true (by simp)]; rfl]
          refine iteF ?_
          refine ⟨_, rfl, l5, rfl, ⟨_, SqL.of h5'⟩, fun D3 hD3 => ?_⟩
          refine lc_list (K := K) (a := l5) (xs := u.map V.str) (fun k J2 => Same H' J2 ∧ ∃ ys, J2 D3 = some (.lst ys) ∧ ys.length = k ∧ DaAll J2 ys ((ws.take k).map winD))
            ⟨new_same hD3, [], upd_same, rfl, .nil⟩ (fun k J2 _ h => SqL.of (h.1 _ _ h5')) ?_ ?_
          · rintro k x J2 hx ⟨s2, ys, j2, ly, dy⟩
            rw [List.getElem?_map] at hx
            cases hy : u[k]? with
            | none => rw [hy] at hx; cases hx
            | some y =>
              rw [hy] at hx
              cases hx
              have lk := (List.getElem?_eq_some_iff.mp hy).1
              have lu := X.uk.len hi
              obtain ⟨x0, hx0⟩ : ∃ x, ws[k]? = some x := ⟨_, List.getElem?_eq_getElem (by rw [lw]; exact lk)⟩
              have XX := X'.same s2
              refine ⟨rfl, yesT ?_⟩
              refine ⟨_, rfl, c, _, _, rfl, XX.o, rfl, _, rfl, _, rfl, _, rfl, c, A, _, z, y, i, k, wss.length, u, wss ++ [ws], ws, x0, rfl, XX, hz, hi, hy, hb', by simp, hx0, fun val dval => ?_⟩
              have kk := G.KT.put (o' := .lst (ys ++ [val])) j2 rfl
              refine ⟨ys, j2, (by rw [sizeLine_eq]; omega), same_put s2 hD3, ys ++ [val], upd_same, by simp [ly], ?_⟩
              rw [List.take_add_one, hx0, List.map_append]
              exact (dy.keep kk (wins_imm _)).snoc (dval.keep kk (win_imm x0))
          · rintro J2 ⟨s2, ys, j2, ly, dy⟩
            rw [List.length_map, ← lw, List.take_length] at dy
            have hl := wins_lay ws
            refine ⟨_, rfl, .list (ws.map winD), .list (ws.map winD), .lst (SqL.of j2) (dy.dp (no_dictAll _ hl.2)), .lst (SqL.of (s2 _ _ hD')) ((dx'.mono s2).dp (no_dictAll _ hl.2)), hl.1, hl.1, ?_⟩
            rw [SeqAt.eqv_refl (.list (ws.map winD)) hl.2]
            refine q J2 (M.publish i z wss bs ws) (R'.same s2) ?_ (X'.same s2) (g.publish hi hb hr0 wk1 wk2 l16 fn) rfl rfl (by simp [Cat.publish])
            exact (((Fr.ext E0J).mono (by simp)).trans (f'.mono fun q m => List.mem_cons_of_mem _ m)).trans (Fr.of s2)
        · -- it falls
          unfold fallOf at fy
          cases hL : wss.getLast? with
          | none => rw [hL] at fy; cases fy
          | some l =>
            rw [hL] at fy
            have fy : fallIn u l ws = some y := fy
            have ml := List.mem_of_getLast? hL
            obtain ⟨k, a1, a2, a3⟩ := fl_some (u := u) (g2 l ml).1.1 lw (g2 l ml).2 wk2 fy
            have fe : flOf wss ws = List.zipWith fallsB l ws := by simp [flOf, hL]
            rw [fe] at hf
            have hf' := s' _ _ hf
            have X' := XJ.same s'
            have Y' := YJ.same s'
            have h5' := s' _ _ h5J
            have my : y ∈ M.ns := (X.uk.ok i z u hz hi).2.2 y (List.mem_of_getElem? a3)
            refine ⟨_, rfl, f, _, rfl, hf', rfl, flat_bls _, ?_⟩
            rw [if_neg (by decide), inV_bl, decide_eq_true (List.mem_of_getElem? a1)]
            refine ⟨_, rfl, iteT ?_⟩
            refine ⟨_, rfl, _, rfl, _, rfl, _, rfl, ⟨f, rfl, .inl ⟨rfl, _, hf'⟩⟩, f, _, .bl true, k, .bl true, rfl, rfl, hf', rfl, flat_bls _, by rw [List.getElem?_map, a1]; rfl, by decide +kernel, ?_, ?_⟩
            · intro m z2 lt hz2
              rw [List.getElem?_map, a2 m lt] at hz2
              cases hz2
              decide +kernel
            refine ⟨l5, _, _, _, rfl, rfl, h5', atI_nat (v := .str y) (by rw [List.getElem?_map, a3]; rfl), (by show 2 ≤ sizeLine; decide), fun t2 ht2 => ?_⟩
            refine ⟨_, _, rfl, .tup upd_same (.cons (.str z) (.cons (.str y) .nil)), okd_pair (X.uk.nm z mz) (X.uk.nm y my), ?_⟩
            have s2 := new_same (o := .tup [.str z, .str y]) ht2
            refine ⟨rfl, true, congrArg V.bl (decide_eq_true rfl), iteT ?_⟩
            have XX := X'.same s2
            have YY := Y'.same s2
            refine ⟨_, rfl, _, rfl, c, c2, _, _, _, _, rfl, rfl, XX.o, YY.o, c, A, M, c2, A2, M, rfl, XX, YY, rfl, rfl, _, rfl, ?_⟩
            rw [decide_eq_true rfl, decide_eq_true rfl]
            have ss := same_trans s' s2
            exact q _ M (RJ.same ss) (((Fr.ext E0J).mono (by simp)).trans (Fr.of ss)) XX g rfl rfl (by omega)
    · refine ⟨_, rfl, _, _, rfl, rfl, _, rfl, ?_⟩
      cases hL : wss.getLast? with
      | none =>
        have e : wss = [] := List.getLast?_eq_none_iff.mp hL
        refine ite2 (fun h1 => by have := of_decide_eq_true h1; rw [e] at this; simp at this) (fun _ => ?_)
        refine ⟨s7, p, _, _, rfl, npS p hp, ?_⟩
        rw [upd_same]
        simp [flOf, hL]
      | some l =>
        have ml := List.mem_of_getLast? hL
        have lpos : 0 < wss.length := List.length_pos_of_mem ml
        have hn : wss[wss.length - 1]? = some l := by rw [← List.getLast?_eq_getElem?]; exact hL
        have ll := (g2 l ml).1.1
        refine ite2 (fun _ => ?_) (fun h1 => absurd (decide_eq_true (by omega : ((wss.length : Nat) : Int) > 0)) h1)
        have h57 := s7 _ _ h6
        have hD7 := s7 _ _ hD6
        have X7 := X6.same s7
        have dx7 := dx.mono s7
        generalize upd H6 p (.lst []) = H7 at E7 R7 s7 h57 hD7 X7 dx7
        refine ⟨_, rfl, _, rfl, l5, D, _, xs, rfl, SqL.of h57, SqL.of hD7, fun D2 hD2 => ?_⟩
        refine lc_it (walk_zip (xs := u.map V.str) (ys := xs) (n := u.length) (by rw [List.length_map, lx]; omega)) (fun k J => Same H7 J ∧ J D2 = some (.lst (((List.zipWith fallsB l ws).take k).map V.bl))) ⟨new_same hD2, upd_same⟩ (fun k J _ h => ⟨SqL.of (h.1 _ _ h57), SqL.of (h.1 _ _ hD7)⟩) ?_ ?_
        · rintro k v J J2 hk ⟨sJ, jD⟩ ⟨T0, e1, e2, rfl, hT, rfl, q1, q2⟩
          dsimp only at q1 q2
          rw [List.getElem?_map, List.getElem?_eq_getElem hk] at q1
          cases q1
          obtain ⟨d2, hd2, dd2⟩ := dx7.get' q2
          have kw : k < ws.length := by rw [lw]; exact hk
          have kl : k < l.length := by rw [ll]; exact hk
          rw [List.getElem?_map, List.getElem?_eq_getElem kw] at hd2
          cases hd2
          have s2 := same_new (o := .tup [.str u[k], e2]) sJ hT
          have XX := X7.same s2
          have nDT : D2 ≠ T0 := ne_of_none jD hT
          have lu := X.uk.len hi
          refine ⟨T0, _, rfl, SqT.of upd_same, rfl, _, _, rfl, _, _, rfl, rfl, rfl, yesT ?_⟩
          refine ⟨_, rfl, c, _, _, rfl, XX.o, rfl, _, rfl, _, rfl, _, rfl, _, _, rfl, rfl, c, A, M, z, u[k], i, k, wss.length - 1, u, wss, l, l[k], ?_, XX, hz, hi, List.getElem?_eq_getElem hk, hb, hn, List.getElem?_eq_getElem kl, fun val dval => ?_⟩
          · have e : ((wss.length : Nat) : Int) - 1 = ((wss.length - 1 : Nat) : Int) := by omega
            show V.ref c :: ([V.str z, V.str u[k], V.int (((wss.length : Nat) : Int) - 1)] ++ []) = _
            rw [e]
            rfl
          refine ⟨_, rfl, val, e2, l[k], ws[k], rfl, dval, dd2.mono s2, _, by rw [upd_ne nDT]; exact jD, ?_, same_put s2 hD2, ?_⟩
          · rw [List.length_map, List.length_take, sizeLine_eq]
            omega
          · rw [upd_same, List.take_add_one, List.map_append]
            have e : (List.zipWith fallsB l ws)[k]? = some (fallsB l[k] ws[k]) := by
              rw [List.getElem?_zipWith, List.getElem?_eq_getElem kl, List.getElem?_eq_getElem kw]
            rw [e]
            rfl
        · rintro J ⟨sJ, jD⟩
          rw [List.take_of_length_le (by rw [List.length_zipWith]; omega)] at jD
          refine ⟨same_trans s7 sJ, D2, _, _, rfl, X7.fresh hD2, ?_⟩
          rw [jD]
          simp [flOf, hL]
end
end N23
set_option maxHeartbeats 1000000
namespace N23
open PySem PySem.Spec PyProof.Rows L2 G
def spLaw (K : PySem.W.Frag) : Sp := fun vs H Q _ => ∃ (a : Addr) (ns : List Int), vs = [.ref a] ∧
  SqL K H a (ns.map V.int) ∧ ns.length ≤ 63 ∧ ∀ H', Q (.bl true) H'
theorem sqL_same {K : PySem.W.Frag} {a : Addr} {H H' : Hp} {xs : List V} (s : Same H H') (h : SqL K H a xs) : SqL K H' a xs := by
  rcases h with (h | ⟨o, h⟩) | h
  · exact .inl (.inl (s _ _ h))
  · exact .inl (.inr ⟨o, s _ _ h⟩)
  · exact .inr h
theorem same_ext {r : Addr} {J0 J1 J2 : Hp} (s : Same J0 J1) (n : J0 r = none) (e : G.Ext r J1 J2) : Same J0 J2 := fun q o h => e q o (ne_of_none h n) (s q o h)
theorem same_fr {S : List Addr} {J0 J1 J2 : Hp} (s : Same J0 J1) (n : ∀ q ∈ S, J0 q = none) (f : Fr S J1 J2) : Same J0 J2 := fun q o h => f q o (fun m => by rw [n q m] at h; cases h) (s q o h)
theorem perm_strs {ys : List V} {fs : List Str} (p : ys.Perm (fs.map V.str)) : ∃ l : List Str, ys = l.map V.str ∧ l.Perm fs := by
  let f : V → Str := fun v => match v with
    | .str s => s
    | _ => ""
  refine ⟨ys.map f, ?_, ?_⟩
  · rw [List.map_map]
    have e : ys.map (V.str ∘ f) = ys.map id := List.map_congr_left fun v hv => by
      obtain ⟨s, _, rfl⟩ := List.mem_map.mp (p.mem_iff.mp hv)
      rfl
    rw [e, List.map_id]
  · have := p.map f
    rw [List.map_map] at this
    have e : fs.map (f ∘ V.str) = fs := by
      have : (f ∘ V.str) = id := by funext s; rfl
      rw [this, List.map_id]
    rw [e] at this
    exact this
theorem cut_take (xs : List V) (d : Nat) : cutV xs none (some (d : Int)) = xs.take d := by
  unfold cutV
  rw [HT.sIx_none, HT.sIx_nat]
  simp
theorem avs_mem {bs : List Bool} {i : Nat} {v : V} (h : v ∈ avs bs i) : ∃ n : Nat, v = .int (n : Nat) ∧ bs[n]? = some true := by
  unfold avs at h
  obtain ⟨n, hn, rfl⟩ := List.mem_map.mp h
  have h2 := (List.mem_filter.mp hn).2
  refine ⟨n, rfl, ?_⟩
  rw [List.getD_eq_getElem?_getD] at h2
  cases hb : bs[n]? with
  | none => rw [hb] at h2; cases h2
  | some b => rw [hb] at h2; rw [show b = true from h2]
theorem dp_ints {K : PySem.W.Frag} {H : Hp} : ∀ ks : List Nat, DpAll K H (ks.map fun k => V.int (k : Nat)) (ks.map fun k => PyData.int (k : Nat))
  | [] => .nil
  | k :: ks => .cons (.int _) (dp_ints ks)
theorem ints_shaped (ks : List Nat) : SeqAt.shaped (.list (ks.map fun k => PyData.int (k : Nat))) = true := by
  have h1 : PyData.canLayAll0 (ks.map fun k => PyData.int (k : Nat)) = true := lay_all fun d hd => by
    obtain ⟨w, _, rfl⟩ := List.mem_map.mp hd
    rfl
  unfold SeqAt.shaped
  rw [Bool.and_eq_true]
  refine ⟨h1, decide_eq_true ?_⟩
  show PyData.depthAll (ks.map fun k => PyData.int (k : Nat)) + 1 ≤ 64
  have := dep_all (ds := ks.map fun k => PyData.int (k : Nat)) (n := 0) fun d hd => by
    obtain ⟨w, _, rfl⟩ := List.mem_map.mp hd
    exact Nat.le_refl _
  omega
theorem sum_le {us : List (List Str)} (h : ∀ u ∈ us, u.length ≤ 4) : (us.map List.length).sum ≤ 4 * us.length := by
  induction us with
  | nil => simp
  | cons u us ih =>
    have := ih fun x hx => h x (by simp [hx])
    have := h u (by simp)
    simp only [List.map_cons, List.sum_cons, List.length_cons]
    omega
section
variable {P : Program} {w : World} {K : PySem.W.Frag} {mg : Str → Option Value} {base : Heap} {C CN : Addr}
theorem sc_law : FnScope ["_law_script", "_law_k", "_law_rng_here", "_law_names_here", "_law_uses", "_law_name_here", "_law_catalog", "_law_turn_here", "_law_other"] ["_law_script"] (defScope sLaw) :=
  ⟨rfl, rfl, rfl, by decide +kernel, rfl, by decide +kernel, by decide +kernel⟩
theorem d_law {fL : Addr} {fdL : FuncData} (F : Fun K "law" "law" sLaw fL fdL) (T : Txt mg) (TC : CatC K mg C) (M_available : Mn P w K mg base CX0 3 C "available" ["self", "module"] (spAvail C)) (M_withdraw : Mn P w K mg base CX0 4 C "withdraw" ["self", "module", "version"] (spWithdraw C)) (DG : Dn P w K mg base CX0 1 "_law_rng" ["_law_script", "_law_k"] (spRng K)) (DD : Dn P w K mg base CX0 1 "_law_draw" ["_law_rng_here", "_law_many"] spDraw) (DC : Dn P w K mg base CX0 2 "_law_choice" ["_law_rng_here", "_law_options"] (spChoice K)) (DS : Dn P w K mg base CX0 2 "_law_shuffled" ["_law_rng_here", "_law_values"] (spShuf K)) (DN : Dn P w K mg base CX0 3 "_law_names" ["_law_rng_here", "_law_many", "_law_used"] spNames) (DR : Dn P w K mg base CX0 4 "_law_rises" ["_law_catalog"] (spLRises C)) (DT : Gn P w K mg base CX0 8 "_law_turn" ["_law_rng_here", "_law_catalog", "_law_turn_here"] (spTurn C)) {fI : Addr} {fdI : FuncData} (MK : Mk K C fI) (FI : FnOk P w K mg base CX0 4 fI fdI ["self", "uses"] (spInit C)) (bI : Binds K fdI ["self", "uses"] []) : FnG P w K mg base CX0 9 fL fdL ["_law_script"] (spLaw K) := by
  refine G.okG F sc_law (fun vs H Q E h => ?_) (fun cdv A0 outer s H vs Q E gd hr h => ?_)
  · obtain ⟨a, ns, rfl, _⟩ := h
    rfl
  · obtain ⟨a, ns, rfl, hS, hlen, q⟩ := h
    have hu := hu_of hr
    refine ⟨_, (pss_cons (ps_for PassesOwn.never rfl (pi_range1 (by rfl) T.range (pa_cons (pe_callB (call_max2 rfl) (by rfl) T.max (by decide +kernel) (pa_cons pe_int (pa_cons (pe_callB (call_min2 rfl) (by rfl) T.min (by decide +kernel) (pa_cons (pe_callB call_len_seq (by rfl) T.len PySem.boot_len (pa_cons (pv 0) pa_nil)) (pa_cons pe_int pa_nil))) pa_nil))) pa_nil)) (pg_name (i := 1) sc_law.nd rfl (Or.inl rfl)) (pss_cons (ps_set (i := 2) sc_law.nd rfl (Or.inl rfl) (pe_cD DG hr pass0 (pa_cons (pv 0) (pa_cons (pv 1) pa_nil))))
      (pss_cons (ps_par (i := 3) (j := 4) (by rfl) sc_law.nd rfl rfl (by decide) rfl rfl (pa_cons (pe_cD DN hr pass0 (pa_cons (pv 2) (pa_cons (pe_op op_add pe_int (pe_cD DD hr pass0 (pa_cons (pv 2) (pa_cons pe_int pa_nil)))) (pa_cons (pe_lst pa_nil) pa_nil)))) (pa_cons pe_dnewK pa_nil)) (by rfl))
      (pss_cons (ps_for PassesOwn.never rfl (pi_list (pv 3)) (pg_name (i := 5) sc_law.nd rfl (Or.inr rfl)) (pss_one (ps_dput hu (pv 4) (pv 5) (pe_callTy tupZ (by rfl) T.tuple (by decide +kernel) (pa_cons (pe_slice slL (pe_cD DS hr pass0 (pa_cons (pv 2) (pa_cons (pe_lc (own := [("_law_other", 8)]) (g := (gName 8)) rfl sc_law.nd (pi_list (pv 3)) (blkOk_by (own := [("_law_other", 8)]) (N := ["_law_script", "_law_k", "_law_rng_here", "_law_names_here", "_law_uses", "_law_name_here", "_law_catalog", "_law_turn_here", "_law_other"]) (sc := defScope sLaw) (by decide +kernel)) (fun _ _ _ _ _ => (pg_name (i := 8) sc_law.nd rfl (Or.inl rfl))) (fun _ _ _ _ _ => (pts_one (pt_cmpR op_ne (pv 8) (pv 5) (nomark _)))) (fun _ _ _ _ _ => (pv 8))) pa_nil))) po_none (po_some (pe_cD DD hr pass0 (pa_cons (pv 2) (pa_cons pe_int pa_nil))))) pa_nil)) rfl)))
      (pss_cons (ps_set (i := 6) sc_law.nd rfl (Or.inl rfl) (pe_mkD MK FI bI hr TC.gC pass0 (pa_cons (pv 4) pa_nil)))
      (pss_cons (ps_for PassesOwn.never rfl (pi_range1 (by rfl) T.range (pa_cons pe_int pa_nil)) (pg_name (i := 7) sc_law.nd rfl (Or.inl rfl)) (pss_cons (ps_if (pt_not (pt_val (pe_cG DT gd hr pass0 (pa_cons (pv 2) (pa_cons (pv 6) (pa_cons (pv 7) pa_nil)))))) (pss_one (ps_ret pe_bl)) pss_nil)
      (pss_cons (ps_set (i := 5) sc_law.nd rfl (Or.inr rfl) (pe_cD DC hr pass0 (pa_cons (pv 2) (pa_cons (pv 3) pa_nil))))
      (pss_one (ps_if (PW.pt (pw_and (pt_cmpR op_eq (pe_cD DD hr pass0 (pa_cons (pv 2) (pa_cons pe_int pa_nil))) pe_int (nomark _)) (pw_and1 (pt_cmpR (op_neD hr.units) (pe_mD (pv 6) TC.cl M_available hr pass0 (pa_cons (pv 5) pa_nil)) (pe_lst pa_nil) (nomark _))))) (pss_one (ps_expr (pe_mD (pv 6) TC.cl M_withdraw hr pass0 (pa_cons (pv 5) (pa_cons (pe_ix ixL (pe_mD (pv 6) TC.cl M_available hr pass0 (pa_cons (pv 5) pa_nil)) (pe_un un_neg pe_int) (fun _ _ => rfl)) pa_nil))))) pss_nil)))))
      (pss_one (ps_if (pt_not (pt_val (pe_cD DR hr pass0 (pa_cons (pv 6) pa_nil)))) (pss_one (ps_ret pe_bl)) pss_nil))))))))
      (pss_one (ps_ret pe_bl))), ?_⟩
    have hN : ∀ L : Int, 0 ≤ L → 0 ≤ (if (if 3 < L then 3 else L) > 1 then (if 3 < L then 3 else L) else 1) ∧
        (if (if 3 < L then 3 else L) > 1 then (if 3 < L then 3 else L) else 1) ≤ 10 := by
      intro L hL
      by_cases h1 : 3 < L
      · rw [if_pos h1]
        decide
      · rw [if_neg h1]
        split <;> omega
    have hN2 := hN ((ns.map V.int).length : Nat) (by omega)
    refine ⟨_, rfl, a, _, rfl, .inl hS, _, _, rfl, _, _, rfl, _, rfl, by omega, by omega, ?_⟩
    generalize (if (if 3 < ((ns.map V.int).length : Int) then 3 else ((ns.map V.int).length : Int)) > 1 then (if 3 < ((ns.map V.int).length : Int) then 3 else ((ns.map V.int).length : Int)) else 1) = n at hN2
    refine for_range (lo := 0) (n := n.toNat) (fun i σ J => SqL K J a (ns.map V.int) ∧ ∃ c1 c2 c3 c4 c5 c6 c7 c8, σ = [some (.ref a), c1, c2, c3, c4, c5, c6, c7, c8]) ⟨hS, _, _, _, _, _, _, _, _, rfl⟩ ?_ ?_
    · rintro i σ J0 hi ⟨hS0, c1, c2, c3, c4, c5, c6, c7, c8, rfl⟩
      refine ⟨_, rfl, _, rfl, a, ns, _, rfl, hS0, by omega, by omega, fun r J1 fr S1 R1 => ?_⟩
      -- names, uses
      refine ⟨_, rfl, _, rfl, r, 4, rfl, R1, by decide, by decide, fun d1 J2 E2 R2 a0 a1 => ?_⟩
      refine ⟨_, _, rfl, rfl, Nat.zero_le _, fun l0 hl0 => ?_⟩
      refine ⟨r, l0, [], _, rfl, R2.new hl0, upd_same, by decide, by omega, by omega, fun p zs J3 E3 R3 hp np hp3 lz nd ok => ?_⟩
      refine fun d hd => ⟨_, _, rfl, ?_⟩
      have E13 : G.Ext r J1 J3 := (E2.trans (Ext.new hl0)).trans E3
      have s3 : Same J0 J3 := same_ext S1 fr E13
      have p0 : J0 p = none := same_none S1 (E2.none np (same_none (new_same hl0) hp))
      have d0 : J0 d = none := same_none s3 hd
      have npd : p ≠ d := ne_of_none hp3 hd
      have nrd := R3.free hd
      have s4 : Same J0 (upd J3 d (.dK [])) := same_new s3 hd
      have R4 := R3.new (o := .dK []) hd
      have hp4 : (upd J3 d (.dK [])) p = some (.lst (zs.map V.str)) := by rw [upd_ne npd]; exact hp3
      have hd4 : (upd J3 d (.dK [])) d = some (.dK []) := upd_same
      have lz2 : 2 ≤ zs.length ∧ zs.length ≤ 5 := by omega
      generalize upd J3 d (.dK []) = J4 at s4 R4 hp4 hd4
      -- the uses
      refine ⟨_, rfl, p, rfl, ⟨_, SqL.of hp4⟩, ?_⟩
      refine for_list (K := K) (a := p) (xs := zs.map V.str) (fun j σ J => Same J0 J ∧ Rng J r ∧ J p = some (.lst (zs.map V.str)) ∧ (∃ nm x8, σ = [some (.ref a), some (.int (0 + (i : Nat))), some (.ref r), some (.ref p), some (.ref d), nm, c6, c7, x8]) ∧
          ∃ (ts : List Addr) (us : List (List Str)), J d = some (.dK (kz (zs.take j) (ts.map V.ref))) ∧ ts.length = j ∧ us.length = j ∧ (∀ (m : Nat) (t : Addr) (l : List Str), ts[m]? = some t → us[m]? = some l → Zt J t (l.map V.str)) ∧
            ∀ (m : Nat) (z : Str) (l : List Str), zs[m]? = some z → us[m]? = some l → z ∉ l ∧ l.Nodup ∧ (∀ y ∈ l, y ∈ zs) ∧ l.length ≤ 4)
        ⟨s4, R4, hp4, ⟨_, _, rfl⟩, [], [], hd4, rfl, rfl, (fun m t l h => by simp at h), fun m z l _ h => by simp at h⟩ (fun j σ J _ h => SqL.of h.2.2.1) ?_ ?_
      · rintro j v σ J hv ⟨sJ, RJ, pJ, ⟨nm, x8, rfl⟩, ts, us, dJ, lt, lu, Z, W⟩
        rw [List.getElem?_map] at hv
        cases hz : zs[j]? with
        | none => rw [hz] at hv; cases hv
        | some z =>
          rw [hz] at hv
          cases hv
          have lj := (List.getElem?_eq_some_iff.mp hz).1
          refine ⟨_, rfl, _, rfl, p, rfl, ⟨_, SqL.of pJ⟩, fun D hD => ?_⟩
          have nrD := RJ.free hD
          refine lc_list (K := K) (a := p) (xs := zs.map V.str) (fun m J2 => Same J J2 ∧ J2 D = some (.lst (((zs.take m).filter fun y => !decide (y = z)).map V.str)))
            ⟨new_same hD, upd_same⟩ (fun m J2 _ h => SqL.of (h.1 _ _ pJ)) ?_ ?_
          · rintro m x J2 hx ⟨s2, j2⟩
            rw [List.getElem?_map] at hx
            cases hy : zs[m]? with
            | none => rw [hy] at hx; cases hx
            | some y =>
              rw [hy] at hx
              cases hx
              have lm := (List.getElem?_eq_some_iff.mp hy).1
              refine ⟨rfl, _, rfl, _, rfl, rfl, _, rfl, ?_⟩
              have e : (zs.take (m + 1)).filter (fun y => !decide (y = z)) = (zs.take m).filter (fun y => !decide (y = z)) ++ [y].filter (fun y => !decide (y = z)) := by
                rw [List.take_add_one, hy, List.filter_append]
                rfl
              by_cases c : y = z
              · have ec : (!decide (V.str y = V.str z)) = false := by rw [c, decide_eq_true rfl]; rfl
                rw [ec]
                refine iteF ⟨s2, ?_⟩
                rw [e, List.filter_cons_of_neg (by simp [c]), List.filter_nil, List.append_nil]
                exact j2
              · have ec : (!decide (V.str y = V.str z)) = true := by rw [decide_eq_false (fun h => c (V.str.inj h))]; rfl
                rw [ec]
                refine iteT ⟨_, rfl, _, j2, ?_, same_put s2 hD, ?_⟩
                · have := List.length_filter_le (fun y => !decide (y = z)) (zs.take m)
                  rw [List.length_map, sizeLine_eq]
                  rw [List.length_take] at this
                  omega
                · rw [upd_same, e, List.filter_cons_of_pos (by simp [c]), List.filter_nil, List.map_append]
                  rfl
          · rintro J2 ⟨s2, j2⟩
            rw [List.length_map, List.take_length] at j2
            have R2 := RJ.same s2
            refine ⟨r, D, _, rfl, R2, SqL.of j2, nrD.symm, ?_, fun p2 ys J3 E3 R3 hp2 np2 h2 perm => ?_⟩
            · have := List.length_filter_le (fun y => !decide (y = z)) zs
              rw [List.length_map]
              omega
            obtain ⟨l', rfl, pl⟩ := perm_strs perm
            refine ⟨_, rfl, r, 5, rfl, R3, by decide, by decide, fun d5 J4 E4 R4 b0 b1 => ?_⟩
            have h24 := E4 _ _ np2 h2
            refine ⟨_, rfl, p2, _, rfl, h24, fun l hl => ?_⟩
            obtain ⟨k5, rfl⟩ : ∃ k : Nat, d5 = (k : Nat) := ⟨d5.toNat, by omega⟩
            rw [cut_take, ← List.map_take]
            refine ⟨l, _, rfl, upd_same, fun t ob ht hob => ?_⟩
            have s24 := (E3.trans E4)
            have dJ4 : J4 d = some (.dK (kz (zs.take j) (ts.map V.ref))) := s24 _ _ nrd.symm (s2 _ _ dJ)
            have pJ4 : J4 p = some (.lst (zs.map V.str)) := s24 _ _ np (s2 _ _ pJ)
            have ndl : d ≠ l := ne_of_none dJ4 hl
            have npl : p ≠ l := ne_of_none pJ4 hl
            have sl := new_same (o := .lst ((l'.take k5).map V.str)) hl
            have st := new_same (o := .frz ob (.tup ((l'.take k5).map V.str))) ht
            have slt := same_trans sl st
            have d6 := slt _ _ dJ4
            have p6 := slt _ _ pJ4
            have t6 : (upd (upd J4 l (.lst ((l'.take k5).map V.str))) t (.frz ob (.tup ((l'.take k5).map V.str)))) t = some (.frz ob (.tup ((l'.take k5).map V.str))) := upd_same
            have R6 := R4.same slt
            have k6 : G.KT J (upd (upd J4 l (.lst ((l'.take k5).map V.str))) t (.frz ob (.tup ((l'.take k5).map V.str)))) := ((G.KT.of s2).trans (G.KT.ext R2 s24)).trans (.of slt)
            have s6 : Same J0 (upd (upd J4 l (.lst ((l'.take k5).map V.str))) t (.frz ob (.tup ((l'.take k5).map V.str)))) := same_trans (same_ext (same_trans sJ s2) fr s24) slt
            generalize upd (upd J4 l (.lst ((l'.take k5).map V.str))) t (.frz ob (.tup ((l'.take k5).map V.str))) = J6 at d6 p6 t6 R6 k6 s6
            have lk : (kz (zs.take j) (ts.map V.ref)).length < sizeLine := by
              rw [kz_len (by simp [lt]; omega), List.length_take, sizeLine_eq]
              omega
            refine ⟨_, rfl, _, rfl, d, _, rfl, DPut.k (k := (Sum.inr z : Key)) d6 lk, ?_⟩
            rw [kz_put nd hz (by simp [lt])]
            have ndt : d ≠ t := ne_of d6 t6 (by intro z; cases z)
            have kk := G.KT.put (o' := .dK (kz (zs.take (j + 1)) (ts.map V.ref ++ [.ref t]))) d6 rfl
            refine ⟨same_put s6 d0, R6.put nrd.symm, by rw [upd_ne npd]; exact p6, ⟨_, _, rfl⟩, ts ++ [t], us ++ [l'.take k5], ?_, by simp [lt], by simp [lu], ?_, ?_⟩
            · rw [upd_same, List.map_append]
              rfl
            · intro m t0 l0 h1 h2
              by_cases c : m < j
              · rw [List.getElem?_append_left (by omega)] at h1 h2
                exact (Z m t0 l0 h1 h2).keep (k6.trans kk)
              · have := (List.getElem?_eq_some_iff.mp h1).1
                simp at this
                have em : m = j := by omega
                subst em
                rw [List.getElem?_append_right (by omega)] at h1 h2
                rw [lt] at h1
                rw [lu] at h2
                simp at h1 h2
                subst h1
                subst h2
                exact ⟨ob, hob, by rw [upd_ne ndt.symm]; exact t6⟩
            · intro m z0 l0 h1 h2
              by_cases c : m < j
              · rw [List.getElem?_append_left (by omega)] at h2
                exact W m z0 l0 h1 h2
              · have := (List.getElem?_eq_some_iff.mp h2).1
                simp at this
                have em : m = j := by omega
                subst em
                rw [List.getElem?_append_right (by omega), lu] at h2
                rw [hz] at h1
                cases h1
                simp at h2
                subst h2
                have sub : ∀ y ∈ l'.take k5, y ∈ zs.filter fun y => !decide (y = z) := fun y hy => pl.mem_iff.mp (List.mem_of_mem_take hy)
                refine ⟨fun hm => ?_, ((pl.nodup_iff.mpr (nd.filter _)).sublist (List.take_sublist _ _)), fun y hy => (List.mem_filter.mp (sub y hy)).1, ?_⟩
                · have := (List.mem_filter.mp (sub z hm)).2
                  simp at this
                · rw [List.length_take]
                  omega
      · rintro σ J ⟨sJ, RJ, pJ, ⟨nm, x8, rfl⟩, ts, us, dJ, lt, lu, Z, W⟩
        rw [List.length_map] at dJ lt lu
        rw [List.take_length] at dJ
        -- the catalog
        refine ⟨_, rfl, fun c dx hc hdx ne => ?_⟩
        have sx : Same J (upd (upd J dx (.own c)) c (.ins C dx [])) := same_new (new_same hdx) (by rw [upd_ne ne.symm]; exact hc)
        have U : UsesAt (upd (upd J dx (.own c)) c (.ins C dx [])) d zs ts us := ⟨sx _ _ dJ, lt, lu, fun m t l h1 h2 => (Z m t l h1 h2).same sx⟩
        have UO : UOk zs us := ⟨lu, by omega, by omega, nd, fun z hz => (ok z hz).1, fun m z l h1 h2 => by
          obtain ⟨w1, w2, w3, _⟩ := W m z l h1 h2
          exact ⟨w1, w2, w3⟩, by
          have := sum_le (us := us) fun u hu => by
            obtain ⟨m, hm⟩ := List.getElem?_of_mem hu
            have lm : m < zs.length := by rw [← lu]; exact (List.getElem?_eq_some_iff.mp hm).1
            exact (W m _ u (List.getElem?_eq_getElem lm) hm).2.2.2
          omega⟩
        refine ⟨c, dx, d, zs, ts, us, rfl, upd_same, U, UO, fun A J6 E6 X6 fresh => ⟨rfl, ?_⟩⟩
        have s6 : Same J J6 := fun q o h => E6 q o (ne_of_none h hc) (sx q o h)
        have R6 := RJ.same s6
        have p6 := s6 _ _ pJ
        have fr6 : ∀ q ∈ dom c A, J q = none := fun q m => by
          by_cases e : q = c
          · rw [e]
            exact hc
          · exact same_none sx (fresh q m e)
        have fr0 : ∀ q ∈ dom c A, J0 q = none := fun q m => same_none sJ (fr6 q m)
        have rd : r ∉ dom c A := fun m => by
          have := fr6 r m
          obtain ⟨x, y, h, _⟩ := RJ
          rw [h] at this
          cases this
        have pd : p ∉ dom c A := fun m => by
          have := fr6 p m
          rw [pJ] at this
          cases this
        have inS : ∀ q ∈ A.aE :: (A.ps ++ A.qs), q ∈ dom c A := fun q m => List.mem_cons_of_mem _ (List.mem_cons_of_mem _ (List.mem_cons_of_mem _ (List.mem_cons_of_mem _ (List.mem_cons_of_mem _ m))))
        have S0 : ∀ q ∈ r :: A.aE :: (A.ps ++ A.qs), J0 q = none := fun q m => by
          rcases List.mem_cons.mp m with e | m
          · rw [e]
            exact fr
          · exact fr0 q (inS q m)
        have pS : p ∉ r :: A.aE :: (A.ps ++ A.qs) := fun m => by
          rcases List.mem_cons.mp m with e | m
          · exact np e
          · exact pd (inS p m)
        refine ⟨_, rfl, by decide, by decide, ?_⟩
        refine for_range (lo := 0) (n := 60) (fun t σ J => Same J0 J ∧ Rng J r ∧ J p = some (.lst (zs.map V.str)) ∧ (∃ x5 x7 x8, σ = [some (.ref a), some (.int (0 + (i : Nat))), some (.ref r), some (.ref p), some (.ref d), x5, some (.ref c), x7, x8]) ∧
            ∃ M, CatAt C J c A M ∧ Good M ∧ M.ns = zs ∧ M.ev.length ≤ 2 * t)
          ⟨same_trans sJ s6, R6, p6, ⟨_, _, _, rfl⟩, _, X6, Good.new _ _, rfl, Nat.zero_le _⟩ ?_ ?_
        · rintro t σ J lt60 ⟨sJ, RJ, pJ, ⟨x5, x7, x8, rfl⟩, M, X, g, en, el⟩
          refine ⟨_, rfl, _, rfl, _, rfl, r, c, A, M, _, rfl, RJ, rd, X, g, by omega, by omega, by omega, fun J2 M2 R2 F2 X2 g2 en2 eu2 el2 => ?_⟩
          refine ⟨_, rfl, iteF ?_⟩
          have s2 := same_fr sJ S0 F2
          have p2 := F2 _ _ pS pJ
          have en3 : M2.ns = zs := en2.trans en
          refine ⟨_, rfl, _, rfl, r, p, _, rfl, R2, SqL.of p2, np, by rw [List.length_map]; omega, by rw [List.length_map]; omega, fun v J3 E3 R3 mv => ?_⟩
          obtain ⟨z, mz, rfl⟩ := List.mem_map.mp mv
          have X3 := X2.ext R2 rd E3
          refine ⟨_, rfl, r, 6, rfl, R3, by decide, by decide, fun d6 J4 E4 R4 e0 e1 => ?_⟩
          have X4 := X3.ext R3 rd E4
          have E24 := E3.trans E4
          have s4 := same_ext s2 fr E24
          have p4 := E24 _ _ np p2
          refine ⟨rfl, _, rfl, ?_⟩
          refine ite2 (fun _ => ?_) (fun _ => ?_)
          · rw [← en3] at mz
            obtain ⟨i2, hz⟩ := List.getElem?_of_mem mz
            obtain ⟨u, wss, bs, hi, hb, hr0⟩ := X4.row hz
            have lbs := g2.r i2 wss bs hb hr0
            have l16 := (g2.g i2 u wss hi hb).1
            refine ⟨_, rfl, c, _, _, rfl, X4.o, rfl, _, rfl, c, A, M2, z, i2, bs, rfl, X4, hz, hr0, by omega, fun l5 J5 s5 hl5 h5 => ?_⟩
            refine ⟨Nat.zero_le _, fun l6 hl6 => ?_⟩
            have s56 := new_same (o := .lst []) hl6
            refine ⟨.list (((List.range bs.length).filter fun k => bs.getD k false).map fun k => PyData.int (k : Nat)), .list [], .lst (SqL.of (s56 _ _ h5)) (dp_ints _), .lst (SqL.of upd_same) .nil, ints_shaped _, ints_shaped [], _, rfl, ?_⟩
            have X6 := (X4.same s5).same s56
            have s46 := same_trans s5 s56
            have R6 := R4.same s46
            have s06 := same_trans s4 s46
            have p6 := s46 _ _ p4
            generalize upd J5 l6 (.lst []) = J6 at X6 s46 R6 s06 p6
            cases hk : ((List.range bs.length).filter fun k => bs.getD k false) with
            | nil =>
              refine iteF ?_
              exact ⟨s06, R6, p6, ⟨_, _, _, rfl⟩, M2, X6, g2, en3, by omega⟩
            | cons k0 ks =>
              refine iteT ?_
              refine ⟨_, rfl, c, _, _, rfl, X6.o, rfl, _, rfl, ?_⟩
              refine ⟨_, rfl, c, _, _, rfl, X6.o, rfl, _, rfl, c, A, M2, z, i2, bs, rfl, X6, hz, hr0, by omega, fun l7 J7 s7 hl7 h7 => ?_⟩
              have ne : avs bs bs.length ≠ [] := by unfold avs; rw [hk]; simp
              obtain ⟨n, ev, hn⟩ := avs_mem (List.getLast_mem ne)
              have X7 := X6.same s7
              refine ⟨_, rfl, l7, _, _, .int (n : Nat), rfl, rfl, h7, ?_, c, A, M2, z, i2, n, bs, rfl, X7, hz, hr0, hn, by omega, fun J8 F8 K8 X8 => ?_⟩
              · rw [← ev]
                conv => lhs; rw [← List.dropLast_concat_getLast ne]
                exact atI_last _ _
              have F8' : Fr (r :: A.aE :: (A.ps ++ A.qs)) J7 J8 := F8.mono fun q m => List.mem_cons_of_mem _ m
              have R7 := R6.same s7
              refine ⟨same_fr (same_trans s06 s7) S0 F8', ?_, F8' _ _ pS (s7 _ _ p6), ⟨_, _, _, rfl⟩, _, X8, g2.withdraw hr0, en3, ?_⟩
              · obtain ⟨x, y, h, hh⟩ := R7
                exact ⟨x, y, F8 _ _ (fun m => rd (inS r m)) h, hh⟩
              · simp only [Cat.withdraw, List.length_append, List.length_cons, List.length_nil]
                omega
          · exact ⟨s4, R4, p4, ⟨_, _, _, rfl⟩, M2, X4, g2, en3, by omega⟩
        · rintro σ J ⟨sJ, RJ, pJ, ⟨x5, x7, x8, rfl⟩, M, X, g, en, el⟩
          refine ⟨_, rfl, c, A, M, rfl, X, g, fun J2 s2 => ⟨_, rfl, iteF ?_⟩⟩
          exact ⟨sqL_same (same_trans sJ s2) hS0, _, _, _, _, _, _, _, _, rfl⟩
    · rintro σ J _
      exact q J
end
end N23
set_option maxHeartbeats 8000000
namespace N23
open PySem PySem.Spec PyProof.Rows PySem.W L2 G

/-- what is asked of a class with fields, as one test -/
def clsB (K : Frag) (C : Addr) (bm : List Value) (nw : String) (fs : List Str) (fI : Addr) : Bool :=
  excInitIn K C bm nw && excOver K C bm && decide (findIn K (.ref C) "__setattr__" = some (some (.builtin "object.__setattr__"))) && decide (subIn K (.ref C) (.type "BaseException") = some true) &&
  decide (typeIn K (.ref C) = some (.type "type")) && keepIn K (.ref C) && hasDictIn K C && decide (findIn K (.ref C) "__getattribute__" = some (some (.builtin "BaseException.__getattribute__"))) &&
  decide (findIn K (.ref C) "__getattr__" = some none) && decide (findIn K (.ref C) "__class__" = some (some (.builtin "object.__class__"))) && decide (mroIn K C (.type "object") = some true) &&
  fs.all (fun f => decide (findIn K (.ref C) f = some none)) && decide (findIn K (.ref C) "__init__" = some (some (.ref fI))) && decide (typeIn K (.ref fI) = some (.type "function"))
def catB (K : Frag) (C : Addr) : Bool :=
  plainGet K C Str.empty && hasDictIn K C && plainOver K C && decide (findIn K (.ref C) "__setattr__" = some (some (.builtin "object.__setattr__"))) &&
  (["names", "used_names", "user_names", "published", "present", "events"] : List Str).all (fun f => decide (findIn K (.ref C) f = some none)) && makesIn K C && keepIn K (.ref C) &&
  decide (findIn K (.ref C) "__class__" = some (some (.builtin "object.__class__"))) && decide (mroIn K C (.type "object") = some true) && decide (kitOne K (.ref C) (.ref C) = some true)
section
variable {P : Program} {w : World} {K : Frag} {mg : Str → Option Value} {bs : Heap} {B nw ini : String} {bm : List Value} {C fI : Addr} {nm f g ql : Str} {st : Stmt} {fd : FuncData}
theorem xv2_of {q1 q2 q3 q4 p1 p2 p3 p4 : Pos} (bx : BaseX B nw ini bm) (h : clsB K C bm nw [f, g] fI = true) (hn : specialIn K (.builtin "object.__class__") "__get__" = some (some (.builtin "getset_descriptor.__get__")))
    (ht : takesIn K (.builtin "object.__class__") = some true) (ne : (f == g) = false) (gC : mg nm = some (.ref C)) (F : Fun K "__init__" ql st fI fd) (S : FnScope ["self", f, g] ["self", f, g] (defScope st))
    (hb : defBody st = [.Assign [.Attribute (.Name "self" q1) f q2] (.Name f q3) q4, .Assign [.Attribute (.Name "self" p1) g p2] (.Name g p3) p4])
    (s1 : (defScope st).names.lookup ("self" : Str) = some .local) (s2 : (defScope st).names.lookup f = some .local) (s3 : (defScope st).names.lookup g = some .local)
    (n1 : (f == ("__debug__" : Str)) = false) (n2 : (f == ("__classdict__" : Str)) = false) (n3 : (g == ("__debug__" : Str)) = false) (n4 : (g == ("__classdict__" : Str)) = false)
    (bd : L2.Binds K fd ["self", f, g] []) (kb : ∀ (s : Shared) (u : Value) (ws : List Value), ws.length = 2 → BindsTo s fd ⟨[u], ([g, f] : List Str).zip ws⟩ ((["self", f, g] : List Str).zip (u :: ws.reverse))) :
    XV2 P w K mg bs nm C f g := by
  simp only [clsB, Bool.and_eq_true, decide_eq_true_eq, List.all_cons, List.all_nil, and_true] at h
  obtain ⟨⟨⟨⟨⟨⟨⟨⟨⟨⟨⟨⟨⟨h1, h2⟩, h3⟩, h4⟩, h5⟩, h6⟩, h7⟩, h8⟩, h9⟩, h10⟩, h11⟩, h12, h12b⟩, h13⟩, h14⟩ := h
  have oe : OexG K C := ⟨⟨B, nw, ini, bm, bx, h1, h2⟩, h3, h4, h5, h6, h7⟩
  exact ⟨oe, ⟨h8, h9, h4, h7⟩, ⟨h8, h9, h4, h7, h10, hn, ht, h11⟩, h12, h12b, ne, gC, fI, fd, h13, h14, ok_iniV2 F S oe h12 h12b hb s1 s2 s3 n1 n2 n3 n4, bd, kb⟩
theorem catB_all (h : catB K C = true) : (plainGet K C Str.empty = true ∧ hasDictIn K C = true ∧ plainOver K C = true ∧ findIn K (.ref C) "__setattr__" = some (some (.builtin "object.__setattr__"))) ∧
    (findIn K (.ref C) "names" = some none ∧ findIn K (.ref C) "used_names" = some none ∧ findIn K (.ref C) "user_names" = some none ∧ findIn K (.ref C) "published" = some none ∧ findIn K (.ref C) "present" = some none ∧ findIn K (.ref C) "events" = some none) ∧
    makesIn K C = true ∧ keepIn K (.ref C) = true ∧ findIn K (.ref C) "__class__" = some (some (.builtin "object.__class__")) ∧ mroIn K C (.type "object") = some true ∧ kitOne K (.ref C) (.ref C) = some true := by
  simp only [catB, Bool.and_eq_true, decide_eq_true_eq, List.all_cons, List.all_nil, and_true] at h
  obtain ⟨⟨⟨⟨⟨⟨⟨⟨⟨h1, h2⟩, h3⟩, h4⟩, h5⟩, h6⟩, h7⟩, h8⟩, h9⟩, h10⟩ := h
  exact ⟨⟨h1, h2, h3, h4⟩, h5, h6, h7, h8, h9, h10⟩
theorem catc_of (h : catB K C = true) (gC : mg "Catalog" = some (.ref C)) : CatC K mg C := by
  obtain ⟨⟨h1, h2, h3, h4⟩, ⟨n1, n2, n3, n4, n5, n6⟩, _⟩ := catB_all h
  exact ⟨⟨h1, h2, h3, h4⟩, n1, n2, n3, n4, n5, n6, gC⟩
theorem isc_of (h : catB K C = true) (hn : specialIn K (.builtin "object.__class__") "__get__" = some (some (.builtin "getset_descriptor.__get__"))) (ht : takesIn K (.builtin "object.__class__") = some true) : IsC K C := by
  obtain ⟨_, _, _, _, h8, h9, h10⟩ := catB_all h
  exact ⟨h8, hn, ht, h9, h10⟩
theorem mk_of (h : catB K C = true) (hi : findIn K (.ref C) "__init__" = some (some (.ref fI))) (hf : isFn K (.ref fI) = true) : Mk K C fI := by
  obtain ⟨_, _, h6, h7, _⟩ := catB_all h
  exact ⟨h6, hi, hf, h7⟩
end
theorem scIN : FnScope ["self", "user", "used"] ["self", "user", "used"] (defScope sIniNR) :=
  ⟨rfl, rfl, rfl, by decide +kernel, rfl, by decide +kernel, by decide +kernel⟩
theorem all_mk {l : PySem.W.OpenLaw} {w : World} {K : PySem.W.Frag} {h : Heap} {mg : Str → Option Value}
    {fa f1 f2 f3 f4 f5 f6 f7 f8 f9 f10 f11 f12 f13 f14 f15 f16 f17 f18 f19 f20 f21 f22 : Addr} {t1 t2 t3 t4 t5 : Tok} (X : K.In h) (gl : h.Ns mainGlobals mg) (hfa : mg "law" = some (.ref fa))
    {od1 an1 od2 an2 od3 an3 od4 an4 od5 an5 od6 an6 od7 an7 od8 an8 od9 an9 od10 an10 od11 an11 od12 an12 od13 an13 od14 an14 od15 an15 od16 an16 od17 an17 od18 an18 od19 an19 od20 an20 od21 an21 od22 an22 : Option Addr} {sl1 sl2 sl3 sl4 sl5 sl6 sl7 sl8 sl9 sl10 sl11 sl12 sl13 sl14 sl15 sl16 sl17 sl18 sl19 sl20 sl21 sl22 : Array (Option Value)}
    {oc1 kV1 dc1 pm1 cd1 ct1 oc2 kV2 dc2 pm2 cd2 ct2 oc3 kV3 dc3 pm3 cd3 ct3 oc4 kV4 dc4 pm4 cd4 ct4 oc5 kV5 dc5 pm5 cd5 ct5 oc6 kV6 dc6 pm6 cd6 ct6 oc7 kV7 dc7 pm7 cd7 ct7 oc8 kV8 dc8 pm8 cd8 ct8 oc9 kV9 dc9 pm9 cd9 ct9 oc10 kV10 dc10 pm10 cd10 ct10 oc11 kV11 dc11 pm11 cd11 ct11 oc12 kV12 dc12 pm12 cd12 ct12 oc13 kV13 dc13 pm13 cd13 ct13 oc14 kV14 dc14 pm14 cd14 ct14 oc15 kV15 dc15 pm15 cd15 ct15 oc16 kV16 dc16 pm16 cd16 ct16 oc17 kV17 dc17 pm17 cd17 ct17 oc18 kV18 dc18 pm18 cd18 ct18 oc19 kV19 dc19 pm19 cd19 ct19 oc20 kV20 dc20 pm20 cd20 ct20 oc21 kV21 dc21 pm21 cd21 ct21 oc22 kV22 dc22 pm22 cd22 ct22 : Value}
    (a1 : PySem.W.nsIn K mainGlobals "is_name" = some (some (.ref f1)))
    (l1 : K.lookup f1 = some ⟨oc1, od1, .func (PySem.W.fnOf "is_name" "is_name" (defArgs sIsName) (defBody sIsName) (defScope sIsName) .none kV1 dc1 pm1 an1 cd1 ct1), sl1⟩)
    (c1 : PySem.W.codeIn K cd1 "is_name" = true) (k1 : PySem.W.keepIn K (.ref f1) = true)
    (a2 : PySem.W.nsIn K mainGlobals "is_version" = some (some (.ref f2)))
    (l2 : K.lookup f2 = some ⟨oc2, od2, .func (PySem.W.fnOf "is_version" "is_version" (defArgs sIsVer) (defBody sIsVer) (defScope sIsVer) .none kV2 dc2 pm2 an2 cd2 ct2), sl2⟩)
    (c2 : PySem.W.codeIn K cd2 "is_version" = true) (k2 : PySem.W.keepIn K (.ref f2) = true)
    (a3 : PySem.W.nsIn K mainGlobals "is_window" = some (some (.ref f3)))
    (l3 : K.lookup f3 = some ⟨oc3, od3, .func (PySem.W.fnOf "is_window" "is_window" (defArgs sIsWin) (defBody sIsWin) (defScope sIsWin) .none kV3 dc3 pm3 an3 cd3 ct3), sl3⟩)
    (c3 : PySem.W.codeIn K cd3 "is_window" = true) (k3 : PySem.W.keepIn K (.ref f3) = true)
    (a4 : PySem.W.nsIn K mainGlobals "require_window" = some (some (.ref f4)))
    (l4 : K.lookup f4 = some ⟨oc4, od4, .func (PySem.W.fnOf "require_window" "require_window" (defArgs sReqWin) (defBody sReqWin) (defScope sReqWin) .none kV4 dc4 pm4 an4 cd4 ct4), sl4⟩)
    (c4 : PySem.W.codeIn K cd4 "require_window" = true) (k4 : PySem.W.keepIn K (.ref f4) = true)
    (a5 : PySem.W.nsIn K mainGlobals "require_windows" = some (some (.ref f5)))
    (l5 : K.lookup f5 = some ⟨oc5, od5, .func (PySem.W.fnOf "require_windows" "require_windows" (defArgs sReqWins) (defBody sReqWins) (defScope sReqWins) .none kV5 dc5 pm5 an5 cd5 ct5), sl5⟩)
    (c5 : PySem.W.codeIn K cd5 "require_windows" = true) (k5 : PySem.W.keepIn K (.ref f5) = true)
    (a6 : PySem.W.nsIn K mainGlobals "reaches" = some (some (.ref f6)))
    (l6 : K.lookup f6 = some ⟨oc6, od6, .func (PySem.W.fnOf "reaches" "reaches" (defArgs sReach) (defBody sReach) (defScope sReach) .none kV6 dc6 pm6 an6 cd6 ct6), sl6⟩)
    (c6 : PySem.W.codeIn K cd6 "reaches" = true) (k6 : PySem.W.keepIn K (.ref f6) = true)
    (a7 : PySem.W.nsIn K mainGlobals "rises" = some (some (.ref f7)))
    (l7 : K.lookup f7 = some ⟨oc7, od7, .func (PySem.W.fnOf "rises" "rises" (defArgs sRises) (defBody sRises) (defScope sRises) .none kV7 dc7 pm7 an7 cd7 ct7), sl7⟩)
    (c7 : PySem.W.codeIn K cd7 "rises" = true) (k7 : PySem.W.keepIn K (.ref f7) = true)
    (a8 : PySem.W.nsIn K mainGlobals "can_use" = some (some (.ref f8)))
    (l8 : K.lookup f8 = some ⟨oc8, od8, .func (PySem.W.fnOf "can_use" "can_use" (defArgs sCanUse) (defBody sCanUse) (defScope sCanUse) .none kV8 dc8 pm8 an8 cd8 ct8), sl8⟩)
    (c8 : PySem.W.codeIn K cd8 "can_use" = true) (k8 : PySem.W.keepIn K (.ref f8) = true)
    (a9 : PySem.W.nsIn K mainGlobals "require_uses" = some (some (.ref f9)))
    (l9 : K.lookup f9 = some ⟨oc9, od9, .func (PySem.W.fnOf "require_uses" "require_uses" (defArgs sReqUses) (defBody sReqUses) (defScope sReqUses) .none kV9 dc9 pm9 an9 cd9 ct9), sl9⟩)
    (c9 : PySem.W.codeIn K cd9 "require_uses" = true) (k9 : PySem.W.keepIn K (.ref f9) = true)
    (a10 : PySem.W.nsIn K mainGlobals "_law_rng" = some (some (.ref f10)))
    (l10 : K.lookup f10 = some ⟨oc10, od10, .func (PySem.W.fnOf "_law_rng" "_law_rng" (defArgs sRng) (defBody sRng) (defScope sRng) .none kV10 dc10 pm10 an10 cd10 ct10), sl10⟩)
    (c10 : PySem.W.codeIn K cd10 "_law_rng" = true) (k10 : PySem.W.keepIn K (.ref f10) = true)
    (a11 : PySem.W.nsIn K mainGlobals "_law_draw" = some (some (.ref f11)))
    (l11 : K.lookup f11 = some ⟨oc11, od11, .func (PySem.W.fnOf "_law_draw" "_law_draw" (defArgs sDraw) (defBody sDraw) (defScope sDraw) .none kV11 dc11 pm11 an11 cd11 ct11), sl11⟩)
    (c11 : PySem.W.codeIn K cd11 "_law_draw" = true) (k11 : PySem.W.keepIn K (.ref f11) = true)
    (a12 : PySem.W.nsIn K mainGlobals "_law_choice" = some (some (.ref f12)))
    (l12 : K.lookup f12 = some ⟨oc12, od12, .func (PySem.W.fnOf "_law_choice" "_law_choice" (defArgs sChoice) (defBody sChoice) (defScope sChoice) .none kV12 dc12 pm12 an12 cd12 ct12), sl12⟩)
    (c12 : PySem.W.codeIn K cd12 "_law_choice" = true) (k12 : PySem.W.keepIn K (.ref f12) = true)
    (a13 : PySem.W.nsIn K mainGlobals "_law_shuffled" = some (some (.ref f13)))
    (l13 : K.lookup f13 = some ⟨oc13, od13, .func (PySem.W.fnOf "_law_shuffled" "_law_shuffled" (defArgs sShuf) (defBody sShuf) (defScope sShuf) .none kV13 dc13 pm13 an13 cd13 ct13), sl13⟩)
    (c13 : PySem.W.codeIn K cd13 "_law_shuffled" = true) (k13 : PySem.W.keepIn K (.ref f13) = true)
    (a14 : PySem.W.nsIn K mainGlobals "_law_name" = some (some (.ref f14)))
    (l14 : K.lookup f14 = some ⟨oc14, od14, .func (PySem.W.fnOf "_law_name" "_law_name" (defArgs sName) (defBody sName) (defScope sName) .none kV14 dc14 pm14 an14 cd14 ct14), sl14⟩)
    (c14 : PySem.W.codeIn K cd14 "_law_name" = true) (k14 : PySem.W.keepIn K (.ref f14) = true)
    (a15 : PySem.W.nsIn K mainGlobals "_law_names" = some (some (.ref f15)))
    (l15 : K.lookup f15 = some ⟨oc15, od15, .func (PySem.W.fnOf "_law_names" "_law_names" (defArgs sNames) (defBody sNames) (defScope sNames) .none kV15 dc15 pm15 an15 cd15 ct15), sl15⟩)
    (c15 : PySem.W.codeIn K cd15 "_law_names" = true) (k15 : PySem.W.keepIn K (.ref f15) = true)
    (a16 : PySem.W.nsIn K mainGlobals "_law_top" = some (some (.ref f16)))
    (l16 : K.lookup f16 = some ⟨oc16, od16, .func (PySem.W.fnOf "_law_top" "_law_top" (defArgs sTop) (defBody sTop) (defScope sTop) .none kV16 dc16 pm16 an16 cd16 ct16), sl16⟩)
    (c16 : PySem.W.codeIn K cd16 "_law_top" = true) (k16 : PySem.W.keepIn K (.ref f16) = true)
    (a17 : PySem.W.nsIn K mainGlobals "_law_falls" = some (some (.ref f17)))
    (l17 : K.lookup f17 = some ⟨oc17, od17, .func (PySem.W.fnOf "_law_falls" "_law_falls" (defArgs sFalls) (defBody sFalls) (defScope sFalls) .none kV17 dc17 pm17 an17 cd17 ct17), sl17⟩)
    (c17 : PySem.W.codeIn K cd17 "_law_falls" = true) (k17 : PySem.W.keepIn K (.ref f17) = true)
    (a18 : PySem.W.nsIn K mainGlobals "_law_drawn" = some (some (.ref f18)))
    (l18 : K.lookup f18 = some ⟨oc18, od18, .func (PySem.W.fnOf "_law_drawn" "_law_drawn" (defArgs sDrawn) (defBody sDrawn) (defScope sDrawn) .none kV18 dc18 pm18 an18 cd18 ct18), sl18⟩)
    (c18 : PySem.W.codeIn K cd18 "_law_drawn" = true) (k18 : PySem.W.keepIn K (.ref f18) = true)
    (a19 : PySem.W.nsIn K mainGlobals "_law_told" = some (some (.ref f19)))
    (l19 : K.lookup f19 = some ⟨oc19, od19, .func (PySem.W.fnOf "_law_told" "_law_told" (defArgs sTold) (defBody sTold) (defScope sTold) .none kV19 dc19 pm19 an19 cd19 ct19), sl19⟩)
    (c19 : PySem.W.codeIn K cd19 "_law_told" = true) (k19 : PySem.W.keepIn K (.ref f19) = true)
    (a20 : PySem.W.nsIn K mainGlobals "_law_rises" = some (some (.ref f20)))
    (l20 : K.lookup f20 = some ⟨oc20, od20, .func (PySem.W.fnOf "_law_rises" "_law_rises" (defArgs sLRises) (defBody sLRises) (defScope sLRises) .none kV20 dc20 pm20 an20 cd20 ct20), sl20⟩)
    (c20 : PySem.W.codeIn K cd20 "_law_rises" = true) (k20 : PySem.W.keepIn K (.ref f20) = true)
    (a21 : PySem.W.nsIn K mainGlobals "_law_turn" = some (some (.ref f21)))
    (l21 : K.lookup f21 = some ⟨oc21, od21, .func (PySem.W.fnOf "_law_turn" "_law_turn" (defArgs sTurn) (defBody sTurn) (defScope sTurn) .none kV21 dc21 pm21 an21 cd21 ct21), sl21⟩)
    (c21 : PySem.W.codeIn K cd21 "_law_turn" = true) (k21 : PySem.W.keepIn K (.ref f21) = true)
    (a22 : PySem.W.nsIn K mainGlobals "law" = some (some (.ref f22)))
    (l22 : K.lookup f22 = some ⟨oc22, od22, .func (PySem.W.fnOf "law" "law" (defArgs sLaw) (defBody sLaw) (defScope sLaw) .none kV22 dc22 pm22 an22 cd22 ct22), sl22⟩)
    (c22 : PySem.W.codeIn K cd22 "law" = true) (k22 : PySem.W.keepIn K (.ref f22) = true)
    (y1 : PySem.W.nsIn K mainGlobals "LETTERS" = some (some (.str LET t1)))
    (y2 : PySem.W.nsIn K mainGlobals "MOST_LETTERS" = some (some (.int 8 t2)))
    (y3 : PySem.W.nsIn K mainGlobals "MOST_MODULES" = some (some (.int 12 t3)))
    (y4 : PySem.W.nsIn K mainGlobals "MOST_VERSIONS" = some (some (.int 16 t4)))
    (y5 : PySem.W.nsIn K mainGlobals "MOST_USES" = some (some (.int 40 t5)))
    {CC CN fI fIN : Addr}
    (aC : PySem.W.nsIn K mainGlobals "Catalog" = some (some (.ref CC)))
    (aN : PySem.W.nsIn K mainGlobals "NotRising" = some (some (.ref CN)))
    (inC : PySem.W.findIn K (.ref CC) "__init__" = some (some (.ref fI)))
    (inN : PySem.W.findIn K (.ref CN) "__init__" = some (some (.ref fIN)))
    {odI anI : Option Addr} {slI : Array (Option Value)} {ocI kVI dcI pmI cdI ctI : Value}
    (lI : K.lookup fI = some ⟨ocI, odI, .func (PySem.W.fnOf "__init__" "Catalog.__init__" (defArgs sInit) (defBody sInit) (defScope sInit) .none kVI dcI pmI anI cdI ctI), slI⟩)
    (cI : PySem.W.codeIn K cdI "Catalog.__init__" = true)
    (kI : PySem.W.keepIn K (.ref fI) = true)
    {odIN anIN : Option Addr} {slIN : Array (Option Value)} {ocIN kVIN dcIN pmIN cdIN ctIN : Value}
    (lIN : K.lookup fIN = some ⟨ocIN, odIN, .func (PySem.W.fnOf "__init__" "NotRising.__init__" (defArgs sIniNR) (defBody sIniNR) (defScope sIniNR) .none kVIN dcIN pmIN anIN cdIN ctIN), slIN⟩)
    (cIN : PySem.W.codeIn K cdIN "NotRising.__init__" = true)
    (kIN : PySem.W.keepIn K (.ref fIN) = true)
    (fnI : PySem.W.isFn K (.ref fI) = true)
    {fM0 : Addr}
    (at0 : PySem.W.findIn K (.ref CC) "is_module" = some (some (.ref fM0)))
    {odM0 anM0 : Option Addr} {slM0 : Array (Option Value)} {ocM0 kVM0 dcM0 pmM0 cdM0 ctM0 : Value}
    (lM0 : K.lookup fM0 = some ⟨ocM0, odM0, .func (PySem.W.fnOf "is_module" "Catalog.is_module" (defArgs sIsMod) (defBody sIsMod) (defScope sIsMod) .none kVM0 dcM0 pmM0 anM0 cdM0 ctM0), slM0⟩)
    (cM0 : PySem.W.codeIn K cdM0 "Catalog.is_module" = true)
    (kM0 : PySem.W.keepIn K (.ref fM0) = true)
    (fn0 : PySem.W.isFn K (.ref fM0) = true)
    {fM1 : Addr}
    (at1 : PySem.W.findIn K (.ref CC) "require_module" = some (some (.ref fM1)))
    {odM1 anM1 : Option Addr} {slM1 : Array (Option Value)} {ocM1 kVM1 dcM1 pmM1 cdM1 ctM1 : Value}
    (lM1 : K.lookup fM1 = some ⟨ocM1, odM1, .func (PySem.W.fnOf "require_module" "Catalog.require_module" (defArgs sReqMod) (defBody sReqMod) (defScope sReqMod) .none kVM1 dcM1 pmM1 anM1 cdM1 ctM1), slM1⟩)
    (cM1 : PySem.W.codeIn K cdM1 "Catalog.require_module" = true)
    (kM1 : PySem.W.keepIn K (.ref fM1) = true)
    (fn1 : PySem.W.isFn K (.ref fM1) = true)
    {fM2 : Addr}
    (at2 : PySem.W.findIn K (.ref CC) "modules" = some (some (.ref fM2)))
    {odM2 anM2 : Option Addr} {slM2 : Array (Option Value)} {ocM2 kVM2 dcM2 pmM2 cdM2 ctM2 : Value}
    (lM2 : K.lookup fM2 = some ⟨ocM2, odM2, .func (PySem.W.fnOf "modules" "Catalog.modules" (defArgs sModules) (defBody sModules) (defScope sModules) .none kVM2 dcM2 pmM2 anM2 cdM2 ctM2), slM2⟩)
    (cM2 : PySem.W.codeIn K cdM2 "Catalog.modules" = true)
    (kM2 : PySem.W.keepIn K (.ref fM2) = true)
    (fn2 : PySem.W.isFn K (.ref fM2) = true)
    {fM3 : Addr}
    (at3 : PySem.W.findIn K (.ref CC) "uses" = some (some (.ref fM3)))
    {odM3 anM3 : Option Addr} {slM3 : Array (Option Value)} {ocM3 kVM3 dcM3 pmM3 cdM3 ctM3 : Value}
    (lM3 : K.lookup fM3 = some ⟨ocM3, odM3, .func (PySem.W.fnOf "uses" "Catalog.uses" (defArgs sUses) (defBody sUses) (defScope sUses) .none kVM3 dcM3 pmM3 anM3 cdM3 ctM3), slM3⟩)
    (cM3 : PySem.W.codeIn K cdM3 "Catalog.uses" = true)
    (kM3 : PySem.W.keepIn K (.ref fM3) = true)
    (fn3 : PySem.W.isFn K (.ref fM3) = true)
    {fM4 : Addr}
    (at4 : PySem.W.findIn K (.ref CC) "versions" = some (some (.ref fM4)))
    {odM4 anM4 : Option Addr} {slM4 : Array (Option Value)} {ocM4 kVM4 dcM4 pmM4 cdM4 ctM4 : Value}
    (lM4 : K.lookup fM4 = some ⟨ocM4, odM4, .func (PySem.W.fnOf "versions" "Catalog.versions" (defArgs sVersions) (defBody sVersions) (defScope sVersions) .none kVM4 dcM4 pmM4 anM4 cdM4 ctM4), slM4⟩)
    (cM4 : PySem.W.codeIn K cdM4 "Catalog.versions" = true)
    (kM4 : PySem.W.keepIn K (.ref fM4) = true)
    (fn4 : PySem.W.isFn K (.ref fM4) = true)
    {fM5 : Addr}
    (at5 : PySem.W.findIn K (.ref CC) "require_rising" = some (some (.ref fM5)))
    {odM5 anM5 : Option Addr} {slM5 : Array (Option Value)} {ocM5 kVM5 dcM5 pmM5 cdM5 ctM5 : Value}
    (lM5 : K.lookup fM5 = some ⟨ocM5, odM5, .func (PySem.W.fnOf "require_rising" "Catalog.require_rising" (defArgs sReqRis) (defBody sReqRis) (defScope sReqRis) .none kVM5 dcM5 pmM5 anM5 cdM5 ctM5), slM5⟩)
    (cM5 : PySem.W.codeIn K cdM5 "Catalog.require_rising" = true)
    (kM5 : PySem.W.keepIn K (.ref fM5) = true)
    (fn5 : PySem.W.isFn K (.ref fM5) = true)
    {fM6 : Addr}
    (at6 : PySem.W.findIn K (.ref CC) "publish" = some (some (.ref fM6)))
    {odM6 anM6 : Option Addr} {slM6 : Array (Option Value)} {ocM6 kVM6 dcM6 pmM6 cdM6 ctM6 : Value}
    (lM6 : K.lookup fM6 = some ⟨ocM6, odM6, .func (PySem.W.fnOf "publish" "Catalog.publish" (defArgs sPublish) (defBody sPublish) (defScope sPublish) .none kVM6 dcM6 pmM6 anM6 cdM6 ctM6), slM6⟩)
    (cM6 : PySem.W.codeIn K cdM6 "Catalog.publish" = true)
    (kM6 : PySem.W.keepIn K (.ref fM6) = true)
    (fn6 : PySem.W.isFn K (.ref fM6) = true)
    {fM7 : Addr}
    (at7 : PySem.W.findIn K (.ref CC) "window" = some (some (.ref fM7)))
    {odM7 anM7 : Option Addr} {slM7 : Array (Option Value)} {ocM7 kVM7 dcM7 pmM7 cdM7 ctM7 : Value}
    (lM7 : K.lookup fM7 = some ⟨ocM7, odM7, .func (PySem.W.fnOf "window" "Catalog.window" (defArgs sWindow) (defBody sWindow) (defScope sWindow) .none kVM7 dcM7 pmM7 anM7 cdM7 ctM7), slM7⟩)
    (cM7 : PySem.W.codeIn K cdM7 "Catalog.window" = true)
    (kM7 : PySem.W.keepIn K (.ref fM7) = true)
    (fn7 : PySem.W.isFn K (.ref fM7) = true)
    {fM8 : Addr}
    (at8 : PySem.W.findIn K (.ref CC) "withdraw" = some (some (.ref fM8)))
    {odM8 anM8 : Option Addr} {slM8 : Array (Option Value)} {ocM8 kVM8 dcM8 pmM8 cdM8 ctM8 : Value}
    (lM8 : K.lookup fM8 = some ⟨ocM8, odM8, .func (PySem.W.fnOf "withdraw" "Catalog.withdraw" (defArgs sWithdraw) (defBody sWithdraw) (defScope sWithdraw) .none kVM8 dcM8 pmM8 anM8 cdM8 ctM8), slM8⟩)
    (cM8 : PySem.W.codeIn K cdM8 "Catalog.withdraw" = true)
    (kM8 : PySem.W.keepIn K (.ref fM8) = true)
    (fn8 : PySem.W.isFn K (.ref fM8) = true)
    {fM9 : Addr}
    (at9 : PySem.W.findIn K (.ref CC) "is_available" = some (some (.ref fM9)))
    {odM9 anM9 : Option Addr} {slM9 : Array (Option Value)} {ocM9 kVM9 dcM9 pmM9 cdM9 ctM9 : Value}
    (lM9 : K.lookup fM9 = some ⟨ocM9, odM9, .func (PySem.W.fnOf "is_available" "Catalog.is_available" (defArgs sIsAv) (defBody sIsAv) (defScope sIsAv) .none kVM9 dcM9 pmM9 anM9 cdM9 ctM9), slM9⟩)
    (cM9 : PySem.W.codeIn K cdM9 "Catalog.is_available" = true)
    (kM9 : PySem.W.keepIn K (.ref fM9) = true)
    (fn9 : PySem.W.isFn K (.ref fM9) = true)
    {fM10 : Addr}
    (at10 : PySem.W.findIn K (.ref CC) "available" = some (some (.ref fM10)))
    {odM10 anM10 : Option Addr} {slM10 : Array (Option Value)} {ocM10 kVM10 dcM10 pmM10 cdM10 ctM10 : Value}
    (lM10 : K.lookup fM10 = some ⟨ocM10, odM10, .func (PySem.W.fnOf "available" "Catalog.available" (defArgs sAvail) (defBody sAvail) (defScope sAvail) .none kVM10 dcM10 pmM10 anM10 cdM10 ctM10), slM10⟩)
    (cM10 : PySem.W.codeIn K cdM10 "Catalog.available" = true)
    (kM10 : PySem.W.keepIn K (.ref fM10) = true)
    (fn10 : PySem.W.isFn K (.ref fM10) = true)
    {fM11 : Addr}
    (at11 : PySem.W.findIn K (.ref CC) "clone" = some (some (.ref fM11)))
    {odM11 anM11 : Option Addr} {slM11 : Array (Option Value)} {ocM11 kVM11 dcM11 pmM11 cdM11 ctM11 : Value}
    (lM11 : K.lookup fM11 = some ⟨ocM11, odM11, .func (PySem.W.fnOf "clone" "Catalog.clone" (defArgs sClone) (defBody sClone) (defScope sClone) .none kVM11 dcM11 pmM11 anM11 cdM11 ctM11), slM11⟩)
    (cM11 : PySem.W.codeIn K cdM11 "Catalog.clone" = true)
    (kM11 : PySem.W.keepIn K (.ref fM11) = true)
    (fn11 : PySem.W.isFn K (.ref fM11) = true)
    {fM12 : Addr}
    (at12 : PySem.W.findIn K (.ref CC) "__eq__" = some (some (.ref fM12)))
    {odM12 anM12 : Option Addr} {slM12 : Array (Option Value)} {ocM12 kVM12 dcM12 pmM12 cdM12 ctM12 : Value}
    (lM12 : K.lookup fM12 = some ⟨ocM12, odM12, .func (PySem.W.fnOf "__eq__" "Catalog.__eq__" (defArgs sEq) (defBody sEq) (defScope sEq) .none kVM12 dcM12 pmM12 anM12 cdM12 ctM12), slM12⟩)
    (cM12 : PySem.W.codeIn K cdM12 "Catalog.__eq__" = true)
    (kM12 : PySem.W.keepIn K (.ref fM12) = true)
    (fn12 : PySem.W.isFn K (.ref fM12) = true)
    (qC : catB K CC = true)
    (qN : clsB K CN [.type "RuntimeError", .type "Exception", .type "BaseException", .type "object"] "RuntimeError.__new__" ["user", "used"] fIN = true)
    (gB : PySem.W.subIn K (.ref CN) (.type "BaseException") = some true)
    (gH : PySem.W.hasDictIn K CN = true)
    (gT : PySem.W.typeIn K (.ref CN) = some (.type "type"))
    (sbN : PySem.W.subIn K (.ref CN) (.ref CN) = some true)
    (hn : PySem.W.specialIn K (.builtin "object.__class__") "__get__" = some (some (.builtin "getset_descriptor.__get__")))
    (ht : PySem.W.takesIn K (.builtin "object.__class__") = some true)
    (zb0 : PySem.W.nsIn K mainGlobals "len" = some none)
    (zb1 : PySem.W.nsIn K mainGlobals "abs" = some none)
    (zb2 : PySem.W.nsIn K mainGlobals "max" = some none)
    (zb3 : PySem.W.nsIn K mainGlobals "min" = some none)
    (zb4 : PySem.W.nsIn K mainGlobals "divmod" = some none)
    (zb5 : PySem.W.nsIn K mainGlobals "isinstance" = some none)
    (zb6 : PySem.W.nsIn K mainGlobals "str" = some none)
    (zb7 : PySem.W.nsIn K mainGlobals "int" = some none)
    (zb8 : PySem.W.nsIn K mainGlobals "bool" = some none)
    (zb9 : PySem.W.nsIn K mainGlobals "tuple" = some none)
    (zb10 : PySem.W.nsIn K mainGlobals "list" = some none)
    (zb11 : PySem.W.nsIn K mainGlobals "dict" = some none)
    (zb12 : PySem.W.nsIn K mainGlobals "set" = some none)
    (zb13 : PySem.W.nsIn K mainGlobals "all" = some none)
    (zb14 : PySem.W.nsIn K mainGlobals "sum" = some none)
    (zb15 : PySem.W.nsIn K mainGlobals "range" = some none)
    (zb16 : PySem.W.nsIn K mainGlobals "zip" = some none)
    (zb17 : PySem.W.nsIn K mainGlobals "enumerate" = some none)
    (zb18 : PySem.W.nsIn K mainGlobals "repr" = some none)
    : ∃ fd : FuncData, (∀ (s : Shared) (v : Value), BindsTo s fd ⟨[v], []⟩ [("_law_script", v)]) ∧
      ∀ bs : Heap, K.In bs → bs.Ns mainGlobals mg → FnG l.prog w K mg bs CX0 9 fa fd ["_law_script"] (spLaw K) := by
  have e := hfa.symm.trans (PySem.W.mg_of X gl a22)
  cases e
  have T : Txt mg := ⟨PySem.W.mg_none_of X gl zb0, PySem.W.mg_none_of X gl zb1, PySem.W.mg_none_of X gl zb2, PySem.W.mg_none_of X gl zb3, PySem.W.mg_none_of X gl zb4, PySem.W.mg_none_of X gl zb5, PySem.W.mg_none_of X gl zb6, PySem.W.mg_none_of X gl zb7, PySem.W.mg_none_of X gl zb8, PySem.W.mg_none_of X gl zb9, PySem.W.mg_none_of X gl zb10, PySem.W.mg_none_of X gl zb11, PySem.W.mg_none_of X gl zb12, PySem.W.mg_none_of X gl zb13, PySem.W.mg_none_of X gl zb14, PySem.W.mg_none_of X gl zb15, PySem.W.mg_none_of X gl zb16, PySem.W.mg_none_of X gl zb17, PySem.W.mg_none_of X gl zb18⟩
  have gy1 := PySem.W.mg_of X gl y1
  have gy2 := PySem.W.mg_of X gl y2
  have gy3 := PySem.W.mg_of X gl y3
  have gy4 := PySem.W.mg_of X gl y4
  have gy5 := PySem.W.mg_of X gl y5
  have F1 := fun_mk (st := sIsName) l1 c1 k1
  have b1 := F1.binds (ps := ["value"]) fun _ _ _ _ _ _ us hl => match us, hl with | [_], _ => rfl
  have g1 := PySem.W.mg_of X gl a1
  have F2 := fun_mk (st := sIsVer) l2 c2 k2
  have b2 := F2.binds (ps := ["value"]) fun _ _ _ _ _ _ us hl => match us, hl with | [_], _ => rfl
  have g2 := PySem.W.mg_of X gl a2
  have F3 := fun_mk (st := sIsWin) l3 c3 k3
  have b3 := F3.binds (ps := ["value"]) fun _ _ _ _ _ _ us hl => match us, hl with | [_], _ => rfl
  have g3 := PySem.W.mg_of X gl a3
  have F4 := fun_mk (st := sReqWin) l4 c4 k4
  have b4 := F4.binds (ps := ["value"]) fun _ _ _ _ _ _ us hl => match us, hl with | [_], _ => rfl
  have g4 := PySem.W.mg_of X gl a4
  have F5 := fun_mk (st := sReqWins) l5 c5 k5
  have b5 := F5.binds (ps := ["value"]) fun _ _ _ _ _ _ us hl => match us, hl with | [_], _ => rfl
  have g5 := PySem.W.mg_of X gl a5
  have F6 := fun_mk (st := sReach) l6 c6 k6
  have b6 := F6.binds (ps := ["high", "version"]) fun _ _ _ _ _ _ us hl => match us, hl with | [_, _], _ => rfl
  have g6 := PySem.W.mg_of X gl a6
  have F7 := fun_mk (st := sRises) l7 c7 k7
  have b7 := F7.binds (ps := ["first", "second"]) fun _ _ _ _ _ _ us hl => match us, hl with | [_, _], _ => rfl
  have g7 := PySem.W.mg_of X gl a7
  have F8 := fun_mk (st := sCanUse) l8 c8 k8
  have b8 := F8.binds (ps := ["module", "value"]) fun _ _ _ _ _ _ us hl => match us, hl with | [_, _], _ => rfl
  have g8 := PySem.W.mg_of X gl a8
  have F9 := fun_mk (st := sReqUses) l9 c9 k9
  have b9 := F9.binds (ps := ["uses"]) fun _ _ _ _ _ _ us hl => match us, hl with | [_], _ => rfl
  have g9 := PySem.W.mg_of X gl a9
  have F10 := fun_mk (st := sRng) l10 c10 k10
  have b10 := F10.binds (ps := ["_law_script", "_law_k"]) fun _ _ _ _ _ _ us hl => match us, hl with | [_, _], _ => rfl
  have g10 := PySem.W.mg_of X gl a10
  have F11 := fun_mk (st := sDraw) l11 c11 k11
  have b11 := F11.binds (ps := ["_law_rng_here", "_law_many"]) fun _ _ _ _ _ _ us hl => match us, hl with | [_, _], _ => rfl
  have g11 := PySem.W.mg_of X gl a11
  have F12 := fun_mk (st := sChoice) l12 c12 k12
  have b12 := F12.binds (ps := ["_law_rng_here", "_law_options"]) fun _ _ _ _ _ _ us hl => match us, hl with | [_, _], _ => rfl
  have g12 := PySem.W.mg_of X gl a12
  have F13 := fun_mk (st := sShuf) l13 c13 k13
  have b13 := F13.binds (ps := ["_law_rng_here", "_law_values"]) fun _ _ _ _ _ _ us hl => match us, hl with | [_, _], _ => rfl
  have g13 := PySem.W.mg_of X gl a13
  have F14 := fun_mk (st := sName) l14 c14 k14
  have b14 := F14.binds (ps := ["_law_rng_here", "_law_used"]) fun _ _ _ _ _ _ us hl => match us, hl with | [_, _], _ => rfl
  have g14 := PySem.W.mg_of X gl a14
  have F15 := fun_mk (st := sNames) l15 c15 k15
  have b15 := F15.binds (ps := ["_law_rng_here", "_law_many", "_law_used"]) fun _ _ _ _ _ _ us hl => match us, hl with | [_, _, _], _ => rfl
  have g15 := PySem.W.mg_of X gl a15
  have F16 := fun_mk (st := sTop) l16 c16 k16
  have b16 := F16.binds (ps := ["_law_one"]) fun _ _ _ _ _ _ us hl => match us, hl with | [_], _ => rfl
  have g16 := PySem.W.mg_of X gl a16
  have F17 := fun_mk (st := sFalls) l17 c17 k17
  have b17 := F17.binds (ps := ["_law_one", "_law_other"]) fun _ _ _ _ _ _ us hl => match us, hl with | [_, _], _ => rfl
  have g17 := PySem.W.mg_of X gl a17
  have F18 := fun_mk (st := sDrawn) l18 c18 k18
  have b18 := F18.binds (ps := ["_law_rng_here", "_law_reach"]) fun _ _ _ _ _ _ us hl => match us, hl with | [_, _], _ => rfl
  have g18 := PySem.W.mg_of X gl a18
  have F19 := fun_mk (st := sTold) l19 c19 k19
  have b19 := F19.binds (ps := ["_law_catalog", "_law_name_here", "_law_some"]) fun _ _ _ _ _ _ us hl => match us, hl with | [_, _, _], _ => rfl
  have g19 := PySem.W.mg_of X gl a19
  have F20 := fun_mk (st := sLRises) l20 c20 k20
  have b20 := F20.binds (ps := ["_law_catalog"]) fun _ _ _ _ _ _ us hl => match us, hl with | [_], _ => rfl
  have g20 := PySem.W.mg_of X gl a20
  have F21 := fun_mk (st := sTurn) l21 c21 k21
  have b21 := F21.binds (ps := ["_law_rng_here", "_law_catalog", "_law_turn_here"]) fun _ _ _ _ _ _ us hl => match us, hl with | [_, _, _], _ => rfl
  have g21 := PySem.W.mg_of X gl a21
  refine ⟨PySem.W.fnOf "law" "law" (defArgs sLaw) (defBody sLaw) (defScope sLaw) .none kV22 dc22 pm22 an22 cd22 ct22, fun s v => .of_eq rfl, fun bs _ _ => ?_⟩
  have FL := fun_mk (st := sLaw) l22 c22 k22
  have TC : CatC K mg CC := catc_of qC (PySem.W.mg_of X gl aC)
  have IC : IsC K CC := isc_of qC hn ht
  have CT : Cst mg := ⟨⟨_, gy1⟩, ⟨_, gy2⟩, ⟨_, gy3⟩, ⟨_, gy4⟩, ⟨_, gy5⟩⟩
  have FIN := fun_mk (st := sIniNR) lIN cIN kIN
  have bIN := FIN.binds (ps := ["self", "user", "used"]) fun _ _ _ _ _ _ us hl => match us, hl with | [_, _, _], _ => rfl
  have XN : XV2 l.prog w K mg bs "NotRising" CN "user" "used" := xv2_of bx_runtime qN hn ht (by decide) (PySem.W.mg_of X gl aN) FIN scIN rfl rfl rfl rfl (by decide) (by decide) (by decide) (by decide) bIN (fun s u ws h => match ws, h with | [_, _], _ => .of_eq rfl)
  have eN := PySem.W.exm_ref gB gH gT sbN
  have FCI := fun_mk (st := sInit) lI cI kI
  have bI := FCI.binds (ps := ["self", "uses"]) fun _ _ _ _ _ _ us hl => match us, hl with | [_, _], _ => rfl
  have MK : Mk K CC fI := mk_of qC inC fnI
  have df10 : Df K mg "_law_rng" sRng ["_law_script", "_law_k"] := ⟨f10, _, F10, g10, b10⟩
  have D__law_rng := d_rng (P := l.prog) (w := w) (mg := mg) (base := bs) df10 T
  have df11 : Df K mg "_law_draw" sDraw ["_law_rng_here", "_law_many"] := ⟨f11, _, F11, g11, b11⟩
  have D__law_draw := d_draw (P := l.prog) (w := w) (mg := mg) (base := bs) df11 T
  have df12 : Df K mg "_law_choice" sChoice ["_law_rng_here", "_law_options"] := ⟨f12, _, F12, g12, b12⟩
  have D__law_choice := d_choice (P := l.prog) (w := w) (mg := mg) (base := bs) df12 T D__law_draw
  have df13 : Df K mg "_law_shuffled" sShuf ["_law_rng_here", "_law_values"] := ⟨f13, _, F13, g13, b13⟩
  have D__law_shuffled := d_shuf (P := l.prog) (w := w) (mg := mg) (base := bs) df13 T D__law_draw
  have df14 : Df K mg "_law_name" sName ["_law_rng_here", "_law_used"] := ⟨f14, _, F14, g14, b14⟩
  have D__law_name := d_name (P := l.prog) (w := w) (mg := mg) (base := bs) df14 T D__law_draw
  have df15 : Df K mg "_law_names" sNames ["_law_rng_here", "_law_many", "_law_used"] := ⟨f15, _, F15, g15, b15⟩
  have D__law_names := d_names (P := l.prog) (w := w) (mg := mg) (base := bs) df15 T D__law_name
  have df1 : Df K mg "is_name" sIsName ["value"] := ⟨f1, _, F1, g1, b1⟩
  have D_is_name := d_isname (P := l.prog) (w := w) (mg := mg) (base := bs) df1 T CT
  have df2 : Df K mg "is_version" sIsVer ["value"] := ⟨f2, _, F2, g2, b2⟩
  have D_is_version := d_isver (P := l.prog) (w := w) (mg := mg) (base := bs) df2 T
  have df3 : Df K mg "is_window" sIsWin ["value"] := ⟨f3, _, F3, g3, b3⟩
  have D_is_window := d_iswin (P := l.prog) (w := w) (mg := mg) (base := bs) df3 T D_is_version
  have df4 : Df K mg "require_window" sReqWin ["value"] := ⟨f4, _, F4, g4, b4⟩
  have D_require_window := d_reqwin (P := l.prog) (w := w) (mg := mg) (base := bs) df4 D_is_window
  have df5 : Df K mg "require_windows" sReqWins ["value"] := ⟨f5, _, F5, g5, b5⟩
  have D_require_windows := d_reqwins (P := l.prog) (w := w) (mg := mg) (base := bs) df5 T D_is_window
  have df6 : Df K mg "reaches" sReach ["high", "version"] := ⟨f6, _, F6, g6, b6⟩
  have D_reaches := d_reach (P := l.prog) (w := w) (mg := mg) (base := bs) df6
  have df7 : Df K mg "rises" sRises ["first", "second"] := ⟨f7, _, F7, g7, b7⟩
  have D_rises := d_rises (P := l.prog) (w := w) (mg := mg) (base := bs) df7 D_require_window D_reaches
  have df8 : Df K mg "can_use" sCanUse ["module", "value"] := ⟨f8, _, F8, g8, b8⟩
  have D_can_use := d_canuse (P := l.prog) (w := w) (mg := mg) (base := bs) df8 T D_is_name
  have df9 : Df K mg "require_uses" sReqUses ["uses"] := ⟨f9, _, F9, g9, b9⟩
  have D_require_uses := d_requses (P := l.prog) (w := w) (mg := mg) (base := bs) df9 T CT D_is_name D_can_use
  have FI := d_init (P := l.prog) (w := w) (mg := mg) (base := bs) FCI T TC D_require_uses
  have FM0 := fun_mk (st := sIsMod) lM0 cM0 kM0
  have bM0 := FM0.binds (ps := ["self", "value"]) fun _ _ _ _ _ _ us hl => match us, hl with | [_, _], _ => rfl
  have mf0 : Mf K CC "is_module" "Catalog.is_module" sIsMod ["self", "value"] := ⟨fM0, _, FM0, ⟨at0, fn0, kM0⟩, bM0⟩
  have M_is_module := m_is_module (P := l.prog) (w := w) (mg := mg) (base := bs) mf0 T TC
  have FM1 := fun_mk (st := sReqMod) lM1 cM1 kM1
  have bM1 := FM1.binds (ps := ["self", "value"]) fun _ _ _ _ _ _ us hl => match us, hl with | [_, _], _ => rfl
  have mf1 : Mf K CC "require_module" "Catalog.require_module" sReqMod ["self", "value"] := ⟨fM1, _, FM1, ⟨at1, fn1, kM1⟩, bM1⟩
  have M_require_module := m_require_module (P := l.prog) (w := w) (mg := mg) (base := bs) mf1 TC M_is_module
  have FM2 := fun_mk (st := sModules) lM2 cM2 kM2
  have bM2 := FM2.binds (ps := ["self"]) fun _ _ _ _ _ _ us hl => match us, hl with | [_], _ => rfl
  have mf2 : Mf K CC "modules" "Catalog.modules" sModules ["self"] := ⟨fM2, _, FM2, ⟨at2, fn2, kM2⟩, bM2⟩
  have M_modules := m_modules (P := l.prog) (w := w) (mg := mg) (base := bs) mf2 T TC
  have FM3 := fun_mk (st := sUses) lM3 cM3 kM3
  have bM3 := FM3.binds (ps := ["self", "module"]) fun _ _ _ _ _ _ us hl => match us, hl with | [_, _], _ => rfl
  have mf3 : Mf K CC "uses" "Catalog.uses" sUses ["self", "module"] := ⟨fM3, _, FM3, ⟨at3, fn3, kM3⟩, bM3⟩
  have M_uses := m_uses (P := l.prog) (w := w) (mg := mg) (base := bs) mf3 T TC M_require_module
  have FM4 := fun_mk (st := sVersions) lM4 cM4 kM4
  have bM4 := FM4.binds (ps := ["self", "module"]) fun _ _ _ _ _ _ us hl => match us, hl with | [_, _], _ => rfl
  have mf4 : Mf K CC "versions" "Catalog.versions" sVersions ["self", "module"] := ⟨fM4, _, FM4, ⟨at4, fn4, kM4⟩, bM4⟩
  have M_versions := m_versions (P := l.prog) (w := w) (mg := mg) (base := bs) mf4 T TC M_require_module
  have FM7 := fun_mk (st := sWindow) lM7 cM7 kM7
  have bM7 := FM7.binds (ps := ["self", "user", "used", "version"]) fun _ _ _ _ _ _ us hl => match us, hl with | [_, _, _, _], _ => rfl
  have mf7 : Mf K CC "window" "Catalog.window" sWindow ["self", "user", "used", "version"] := ⟨fM7, _, FM7, ⟨at7, fn7, kM7⟩, bM7⟩
  have M_window := m_window (P := l.prog) (w := w) (mg := mg) (base := bs) mf7 T TC M_require_module D_is_version
  have FM9 := fun_mk (st := sIsAv) lM9 cM9 kM9
  have bM9 := FM9.binds (ps := ["self", "module", "version"]) fun _ _ _ _ _ _ us hl => match us, hl with | [_, _, _], _ => rfl
  have mf9 : Mf K CC "is_available" "Catalog.is_available" sIsAv ["self", "module", "version"] := ⟨fM9, _, FM9, ⟨at9, fn9, kM9⟩, bM9⟩
  have M_is_available := m_is_available (P := l.prog) (w := w) (mg := mg) (base := bs) mf9 T TC M_require_module D_is_version
  have FM10 := fun_mk (st := sAvail) lM10 cM10 kM10
  have bM10 := FM10.binds (ps := ["self", "module"]) fun _ _ _ _ _ _ us hl => match us, hl with | [_, _], _ => rfl
  have mf10 : Mf K CC "available" "Catalog.available" sAvail ["self", "module"] := ⟨fM10, _, FM10, ⟨at10, fn10, kM10⟩, bM10⟩
  have M_available := m_available (P := l.prog) (w := w) (mg := mg) (base := bs) mf10 T TC M_require_module
  have FM8 := fun_mk (st := sWithdraw) lM8 cM8 kM8
  have bM8 := FM8.binds (ps := ["self", "module", "version"]) fun _ _ _ _ _ _ us hl => match us, hl with | [_, _, _], _ => rfl
  have mf8 : Mf K CC "withdraw" "Catalog.withdraw" sWithdraw ["self", "module", "version"] := ⟨fM8, _, FM8, ⟨at8, fn8, kM8⟩, bM8⟩
  have M_withdraw := m_withdraw (P := l.prog) (w := w) (mg := mg) (base := bs) mf8 T TC M_is_available
  have FM5 := fun_mk (st := sReqRis) lM5 cM5 kM5
  have bM5 := FM5.binds (ps := ["self", "module", "windows"]) fun _ _ _ _ _ _ us hl => match us, hl with | [_, _, _], _ => rfl
  have mf5 : Mf K CC "require_rising" "Catalog.require_rising" sReqRis ["self", "module", "windows"] := ⟨fM5, _, FM5, ⟨at5, fn5, kM5⟩, bM5⟩
  have M_require_rising := m_require_rising (P := l.prog) (w := w) (mg := mg) (base := bs) mf5 T TC XN D_rises
  have FM6 := fun_mk (st := sPublish) lM6 cM6 kM6
  have bM6 := FM6.binds (ps := ["self", "module", "windows"]) fun _ _ _ _ _ _ us hl => match us, hl with | [_, _, _], _ => rfl
  have mf6 : Mf K CC "publish" "Catalog.publish" sPublish ["self", "module", "windows"] := ⟨fM6, _, FM6, ⟨at6, fn6, kM6⟩, bM6⟩
  have M_publish := m_publish (P := l.prog) (w := w) (mg := mg) (base := bs) mf6 T TC CT M_require_module M_require_rising D_require_windows
  have FM11 := fun_mk (st := sClone) lM11 cM11 kM11
  have bM11 := FM11.binds (ps := ["self"]) fun _ _ _ _ _ _ us hl => match us, hl with | [_], _ => rfl
  have mf11 : Mf K CC "clone" "Catalog.clone" sClone ["self"] := ⟨fM11, _, FM11, ⟨at11, fn11, kM11⟩, bM11⟩
  have M_clone := m_clone (P := l.prog) (w := w) (mg := mg) (base := bs) mf11 T TC MK FI bI
  have FM12 := fun_mk (st := sEq) lM12 cM12 kM12
  have bM12 := FM12.binds (ps := ["self", "other"]) fun _ _ _ _ _ _ us hl => match us, hl with | [_, _], _ => rfl
  have mf12 : Mf K CC "__eq__" "Catalog.__eq__" sEq ["self", "other"] := ⟨fM12, _, FM12, ⟨at12, fn12, kM12⟩, bM12⟩
  have M___eq__ := m_eq (P := l.prog) (w := w) (mg := mg) (base := bs) mf12 T TC IC
  have df16 : Df K mg "_law_top" sTop ["_law_one"] := ⟨f16, _, F16, g16, b16⟩
  have D__law_top := d_top (P := l.prog) (w := w) (mg := mg) (base := bs) df16
  have df17 : Df K mg "_law_falls" sFalls ["_law_one", "_law_other"] := ⟨f17, _, F17, g17, b17⟩
  have D__law_falls := d_falls (P := l.prog) (w := w) (mg := mg) (base := bs) df17 D__law_top
  have df18 : Df K mg "_law_drawn" sDrawn ["_law_rng_here", "_law_reach"] := ⟨f18, _, F18, g18, b18⟩
  have D__law_drawn := d_drawn (P := l.prog) (w := w) (mg := mg) (base := bs) df18 T D__law_draw
  have df19 : Df K mg "_law_told" sTold ["_law_catalog", "_law_name_here", "_law_some"] := ⟨f19, _, F19, g19, b19⟩
  have D__law_told := d_told (P := l.prog) (w := w) (mg := mg) (base := bs) df19 T TC XN eN M_publish
  have df20 : Df K mg "_law_rises" sLRises ["_law_catalog"] := ⟨f20, _, F20, g20, b20⟩
  have D__law_rises := d_lrises (P := l.prog) (w := w) (mg := mg) (base := bs) df20 T TC M_modules M_uses M_versions M_window D__law_falls
  have df21 : Df K mg "_law_turn" sTurn ["_law_rng_here", "_law_catalog", "_law_turn_here"] := ⟨f21, _, F21, g21, b21⟩
  have D__law_turn := d_turn (P := l.prog) (w := w) (mg := mg) (base := bs) df21 T TC M_modules M_uses M_versions M_window M_clone M___eq__ D__law_choice D__law_falls D__law_drawn D__law_told
  exact d_law FL T TC M_available M_withdraw D__law_rng D__law_draw D__law_choice D__law_shuffled D__law_names D__law_rises D__law_turn MK FI bI
theorem walk {l : PySem.W.OpenLaw} {q : Program} {loose : List Str} {XP : (Str → Option Value) → Heap → Prop} {YP : World → Heap → Prop} {d : DefRec} {K : Params → PySem.W.Frag}
    (hn : l.most = some 63) (hdf : d.params.defaults = []) (hY : ∀ (w : World) (h : Heap), YP w h → (K w.params).In h)
    (F : ∀ (w : World) (mg : Str → Option Value) (fa : Addr) (h : Heap), (K w.params).In h → h.Ns mainGlobals mg → mg d.name = some (.ref fa) →
      ∃ fd : FuncData, (∀ (s : Shared) (u : Value), BindsTo s fd ⟨[u], []⟩ [("_law_script", u)]) ∧
        ∀ bs : Heap, (K w.params).In bs → bs.Ns mainGlobals mg → FnG l.prog w (K w.params) mg bs CX0 9 fa fd ["_law_script"] (spLaw (K w.params))) :
    PySem.W.WalkO q loose XP YP l.row.toRowW d [] (fun f vs => PySem.call f vs) :=
  walk_ofG (n := 63) (k := 9) (x := "_law_script") (sp := fun w => spLaw (K w.params)) hn (by decide) hdf ⟨rfl, by decide, by decide⟩ hY F
    (fun _ _ a ns hl _ hS => ⟨a, ns, rfl, hS, hl, fun _ => rfl⟩)
end N23

open PySem PySem.W PyProof.Rows in
set_option maxRecDepth 100000 in
set_option maxHeartbeats 0 in
theorem PySem.Challenge.cw_groupsteps_k23_whole_windows_always_rise_holds : PySem.Challenge.rw_groupsteps_k23_whole_windows_always_rise.Holds := by
  w_on; o_law; k_head; (case hw => w_witness2)
  k_fill
  refine N23.walk (l := PySem.Challenge.rw_groupsteps_k23_whole_windows_always_rise) rfl rfl (fun w h Y => PySem.W.kIn_of Y) ?F
  case F =>
    intro w mg fa h KX gl hmg
    refine' N23.all_mk KX gl hmg ?a1 ?l1 ?c1 ?k1 ?a2 ?l2 ?c2 ?k2 ?a3 ?l3 ?c3 ?k3 ?a4 ?l4 ?c4 ?k4 ?a5 ?l5 ?c5 ?k5 ?a6 ?l6 ?c6 ?k6 ?a7 ?l7 ?c7 ?k7 ?a8 ?l8 ?c8 ?k8 ?a9 ?l9 ?c9 ?k9 ?a10 ?l10 ?c10 ?k10 ?a11 ?l11 ?c11 ?k11 ?a12 ?l12 ?c12 ?k12 ?a13 ?l13 ?c13 ?k13 ?a14 ?l14 ?c14 ?k14 ?a15 ?l15 ?c15 ?k15 ?a16 ?l16 ?c16 ?k16 ?a17 ?l17 ?c17 ?k17 ?a18 ?l18 ?c18 ?k18 ?a19 ?l19 ?c19 ?k19 ?a20 ?l20 ?c20 ?k20 ?a21 ?l21 ?c21 ?k21 ?a22 ?l22 ?c22 ?k22 ?y1 ?y2 ?y3 ?y4 ?y5 ?aC ?aN ?inC ?inN ?lI ?cI ?kI ?lIN ?cIN ?kIN ?fnI ?at0 ?lM0 ?cM0 ?kM0 ?fn0 ?at1 ?lM1 ?cM1 ?kM1 ?fn1 ?at2 ?lM2 ?cM2 ?kM2 ?fn2 ?at3 ?lM3 ?cM3 ?kM3 ?fn3 ?at4 ?lM4 ?cM4 ?kM4 ?fn4 ?at5 ?lM5 ?cM5 ?kM5 ?fn5 ?at6 ?lM6 ?cM6 ?kM6 ?fn6 ?at7 ?lM7 ?cM7 ?kM7 ?fn7 ?at8 ?lM8 ?cM8 ?kM8 ?fn8 ?at9 ?lM9 ?cM9 ?kM9 ?fn9 ?at10 ?lM10 ?cM10 ?kM10 ?fn10 ?at11 ?lM11 ?cM11 ?kM11 ?fn11 ?at12 ?lM12 ?cM12 ?kM12 ?fn12 ?qC ?qN ?gB ?gH ?gT ?sbN ?hn ?ht ?zb0 ?zb1 ?zb2 ?zb3 ?zb4 ?zb5 ?zb6 ?zb7 ?zb8 ?zb9 ?zb10 ?zb11 ?zb12 ?zb13 ?zb14 ?zb15 ?zb16 ?zb17 ?zb18
    (case a1 => k_is)
    (case l1 => k_is)
    (case c1 => k_is)
    (case k1 => k_is)
    (case a2 => k_is)
    (case l2 => k_is)
    (case c2 => k_is)
    (case k2 => k_is)
    (case a3 => k_is)
    (case l3 => k_is)
    (case c3 => k_is)
    (case k3 => k_is)
    (case a4 => k_is)
    (case l4 => k_is)
    (case c4 => k_is)
    (case k4 => k_is)
    (case a5 => k_is)
    (case l5 => k_is)
    (case c5 => k_is)
    (case k5 => k_is)
    (case a6 => k_is)
    (case l6 => k_is)
    (case c6 => k_is)
    (case k6 => k_is)
    (case a7 => k_is)
    (case l7 => k_is)
    (case c7 => k_is)
    (case k7 => k_is)
    (case a8 => k_is)
    (case l8 => k_is)
    (case c8 => k_is)
    (case k8 => k_is)
    (case a9 => k_is)
    (case l9 => k_is)
    (case c9 => k_is)
    (case k9 => k_is)
    (case a10 => k_is)
    (case l10 => k_is)
    (case c10 => k_is)
    (case k10 => k_is)
    (case a11 => k_is)
    (case l11 => k_is)
    (case c11 => k_is)
    (case k11 => k_is)
    (case a12 => k_is)
    (case l12 => k_is)
    (case c12 => k_is)
    (case k12 => k_is)
    (case a13 => k_is)
    (case l13 => k_is)
    (case c13 => k_is)
    (case k13 => k_is)
    (case a14 => k_is)
    (case l14 => k_is)
    (case c14 => k_is)
    (case k14 => k_is)
    (case a15 => k_is)
    (case l15 => k_is)
    (case c15 => k_is)
    (case k15 => k_is)
    (case a16 => k_is)
    (case l16 => k_is)
    (case c16 => k_is)
    (case k16 => k_is)
    (case a17 => k_is)
    (case l17 => k_is)
    (case c17 => k_is)
    (case k17 => k_is)
    (case a18 => k_is)
    (case l18 => k_is)
    (case c18 => k_is)
    (case k18 => k_is)
    (case a19 => k_is)
    (case l19 => k_is)
    (case c19 => k_is)
    (case k19 => k_is)
    (case a20 => k_is)
    (case l20 => k_is)
    (case c20 => k_is)
    (case k20 => k_is)
    (case a21 => k_is)
    (case l21 => k_is)
    (case c21 => k_is)
    (case k21 => k_is)
    (case a22 => k_is)
    (case l22 => k_is)
    (case c22 => k_is)
    (case k22 => k_is)
    (case y1 => k_is)
    (case y2 => k_is)
    (case y3 => k_is)
    (case y4 => k_is)
    (case y5 => k_is)
    (case aC => k_is)
    (case aN => k_is)
    (case inC => k_is)
    (case inN => k_is)
    (case lI => k_is)
    (case cI => k_is)
    (case kI => k_is)
    (case lIN => k_is)
    (case cIN => k_is)
    (case kIN => k_is)
    (case fnI => first | rfl | decide +kernel)
    (case at0 => k_is)
    (case lM0 => k_is)
    (case cM0 => k_is)
    (case kM0 => k_is)
    (case fn0 => first | rfl | decide +kernel)
    (case at1 => k_is)
    (case lM1 => k_is)
    (case cM1 => k_is)
    (case kM1 => k_is)
    (case fn1 => first | rfl | decide +kernel)
    (case at2 => k_is)
    (case lM2 => k_is)
    (case cM2 => k_is)
    (case kM2 => k_is)
    (case fn2 => first | rfl | decide +kernel)
    (case at3 => k_is)
    (case lM3 => k_is)
    (case cM3 => k_is)
    (case kM3 => k_is)
    (case fn3 => first | rfl | decide +kernel)
    (case at4 => k_is)
    (case lM4 => k_is)
    (case cM4 => k_is)
    (case kM4 => k_is)
    (case fn4 => first | rfl | decide +kernel)
    (case at5 => k_is)
    (case lM5 => k_is)
    (case cM5 => k_is)
    (case kM5 => k_is)
    (case fn5 => first | rfl | decide +kernel)
    (case at6 => k_is)
    (case lM6 => k_is)
    (case cM6 => k_is)
    (case kM6 => k_is)
    (case fn6 => first | rfl | decide +kernel)
    (case at7 => k_is)
    (case lM7 => k_is)
    (case cM7 => k_is)
    (case kM7 => k_is)
    (case fn7 => first | rfl | decide +kernel)
    (case at8 => k_is)
    (case lM8 => k_is)
    (case cM8 => k_is)
    (case kM8 => k_is)
    (case fn8 => first | rfl | decide +kernel)
    (case at9 => k_is)
    (case lM9 => k_is)
    (case cM9 => k_is)
    (case kM9 => k_is)
    (case fn9 => first | rfl | decide +kernel)
    (case at10 => k_is)
    (case lM10 => k_is)
    (case cM10 => k_is)
    (case kM10 => k_is)
    (case fn10 => first | rfl | decide +kernel)
    (case at11 => k_is)
    (case lM11 => k_is)
    (case cM11 => k_is)
    (case kM11 => k_is)
    (case fn11 => first | rfl | decide +kernel)
    (case at12 => k_is)
    (case lM12 => k_is)
    (case cM12 => k_is)
    (case kM12 => k_is)
    (case fn12 => first | rfl | decide +kernel)
    (case qC => first | rfl | decide +kernel)
    (case qN => first | rfl | decide +kernel)
    (case gB => k_is)
    (case gH => k_is)
    (case gT => k_is)
    (case sbN => first | rfl | k_is)
    (case hn => k_is)
    (case ht => k_is)
    (case zb0 => k_is)
    (case zb1 => k_is)
    (case zb2 => k_is)
    (case zb3 => k_is)
    (case zb4 => k_is)
    (case zb5 => k_is)
    (case zb6 => k_is)
    (case zb7 => k_is)
    (case zb8 => k_is)
    (case zb9 => k_is)
    (case zb10 => k_is)
    (case zb11 => k_is)
    (case zb12 => k_is)
    (case zb13 => k_is)
    (case zb14 => k_is)
    (case zb15 => k_is)
    (case zb16 => k_is)
    (case zb17 => k_is)
    (case zb18 => k_is)

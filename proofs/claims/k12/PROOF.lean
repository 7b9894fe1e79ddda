import PyProof.Rows.All
import Wide.All
import OpenK.AllK
import Wide.FinOn
import HandS.ForMost
import HandS.IsInst
import HandS.WideBits
import HandS.Wide
import HandS.Walk
import HandS.EndBits
import PyProof.ReprRoads
import PyProof.ReprLen
import HandS.Ends
import HandS.ForExc
import HandS.ExcInit
import HandS.ExcField
import HandS.ExcIs
import HandS.Style
import HandS.FStr
import HandS.Text
import KE.IntTextText
import HandS.Lambda
import HandS.EndTab
import KE.KNest
import HandS.List
import PyProof.Rows.CountFlat
import HandS.ExcOwn
import PySem.Challenge.RW_groupsteps_k12_windows_judged
set_option Elab.async false
set_option maxRecDepth 100000
set_option linter.all false
/-! Calls whose surroundings hold no running repr: a promise that may use it (FnG), and repr of data. -/
namespace G
open PySem PySem.Spec PyProof.Rows L2

/-- a def keeps its promise wherever no repr is under way -/
structure FnG (P : Program) (w : World) (K : PySem.W.Frag) (mg : Str → Option Value) (bs : Heap)
    (CX : CXT) (k : Nat) (f : Addr) (fd : FuncData) (ps : List Str) (sp : Sp) : Prop where
  lenG : ∀ vs H Q E, sp vs H Q E → vs.length = ps.length
  runG : ∀ (A : Around) (ou : List Env) (st : Shared) (H : Hp) (ar : Args) (ys : List Value)
    (xs : List V) (Q : VK) (E : XK), A.guards = some [] → Room k A →
    Env0 P w K mg bs A ou st H → BindsTo st fd ar (ps.zip ys) → Vals xs ys → sp xs H Q E →
    codeAny (model P w) A (.call (.ref f) ar) (CR CX ou P w H st Q E) st

variable {P : Program} {w : World} {K : PySem.W.Frag} {mg : Str → Option Value} {bs : Heap}

theorem FnG.of {CX : CXT} {k : Nat} {f : Addr} {fd : FuncData} {ps : List Str} {sp : Sp}
    (F : FnOk P w K mg bs CX k f fd ps sp) : FnG P w K mg bs CX k f fd ps sp :=
  ⟨F.len, fun A ou st H ar ys xs Q E _ => F.run A ou st H ar ys xs Q E⟩
theorem FnG.mono {CX : CXT} {j k : Nat} {f : Addr} {fd : FuncData} {ps : List Str} {sp : Sp}
    (F : FnG P w K mg bs CX j f fd ps sp) (h : j ≤ k) : FnG P w K mg bs CX k f fd ps sp :=
  ⟨F.lenG, fun A ou st H ar ys xs Q E g r => F.runG A ou st H ar ys xs Q E g (r.mono h)⟩

/-- a def of the text, by its body, which may use that no repr is under way -/
theorem fn_ofG {CX : CXT} {k : Nat} {f : Addr} {nm ql : Str} {prm : Arguments} {bd : List Stmt}
    {sc : Scope} {dV kV dc pm cv ct oc : Value} {an od : Option Addr} {sl : Array (Option Value)}
    {N ps : List Str} {sp : Sp}
    (lk : K.lookup f = some ⟨oc, od, .func (PySem.W.fnOf nm ql prm bd sc dV kV dc pm an cv ct), sl⟩)
    (hc : PySem.W.codeIn K cv ql = true) (S : FnScope N ps sc)
    (ln : ∀ vs H Q E, sp vs H Q E → vs.length = ps.length)
    (hb : ∀ (A : Around) (ou : List Env) (st : Shared) (H : Hp) (xs : List V) (Q : VK) (E : XK),
      A.guards = some [] → Room k (A.deeper (envOfC ql sc st.heap.objs.size f cv)) → sp xs H Q E →
      ∃ t, PSs (cxOf CX P w K mg bs N ql sc f cv A ou st H E) bd t ∧
        t { nx := fun _ J => Q .non J, rt := Q } (start N xs) H) :
    FnG P w K mg bs CX (k + 1) f (PySem.W.fnOf nm ql prm bd sc dV kV dc pm an cv ct) ps sp := by
  refine ⟨ln, fun A ou st H ar ys xs Q E gd rm ev bt vl pr => ?_⟩
  have len := ln xs H Q E pr
  have old : ∀ b o, bs.get? b = some o → st.heap.get? b = some o := fun b o z => (ev.bs b o z).1
  have inK : K.In st.heap := ev.mod.kin.keeps old
  have nl : st.heap.NoLimit := ev.mod.nolimit.keeps old
  have knd : ∀ y ∈ ps.zip ys, sc.names.lookup y.1 = some .local ∨
      (sc.names.lookup y.1 = some .cell ∧
        ((cellsFrom (st.heap.objs.size + 1) sc.names []).lookup y.1).isSome = true) := by
    rintro ⟨n, v⟩ hy
    rcases S.par n (List.of_mem_zip hy).1 with z | z
    · exact .inl z
    · exact .inr ⟨z, PySem.W.cellsFrom_some _ _ _ (.inl z)⟩
  refine codeAny_call_function rm.depth (inK _ _ lk) rfl S.co S.gen rfl
    (PySem.W.codeRec_of inK hc) (bt _ _ _ _ ?_)
  refine wpAny_newFunctionEnv_cells S.kind knd fun en hen st1 ic => ?_
  subst hen
  refine ⟨nl.keeps ic.toInCall.keep, codeAny_func ?_⟩
  obtain ⟨t, pt, rd⟩ := hb A ou st H xs Q E gd (rm.deeper _) pr
  have J : Inv (cxOf CX P w K mg bs N ql sc f cv A ou st H E) [] (start N xs) H st1 :=
    inv_start S rm.hd ev len vl ic
  refine wpAny_mono (pt.run [] st1 (start N xs) H _ J rd) (fun fl st2 z => ?_) fun _ _ z => z
  cases fl with
  | ret u =>
    obtain ⟨v, σ2, H2, J2, rv, q⟩ := z
    exact ⟨v, H2, J2.os, J2.bare, J2.base, J2.hok, rv, q⟩
  | next =>
    obtain ⟨σ2, H2, J2, q⟩ := z
    exact ⟨V.non, H2, J2.os, J2.bare, J2.base, J2.hok, rfl, q⟩
  | brk =>
    obtain ⟨_, _, _, q⟩ := z
    exact q.elim
  | cont =>
    obtain ⟨_, _, _, q⟩ := z
    exact q.elim

theorem okG {x ql : Str} {st : Stmt} {f : Addr} {fd : FuncData} {N ps : List Str} {k : Nat} {sp : Sp}
    (F : Fun K x ql st f fd) (S : FnScope N ps (defScope st))
    (ln : ∀ vs H Q E, sp vs H Q E → vs.length = ps.length)
    (hb : ∀ (cv : Value) (A : Around) (ou : List Env) (s : Shared) (H : Hp) (vs : List V) (Q : VK)
      (E : XK), A.guards = some [] →
      Room k (A.deeper (envOfC ql (defScope st) s.heap.objs.size f cv)) → sp vs H Q E →
      ∃ t, PSs (cxOf CX0 P w K mg bs N ql (defScope st) f cv A ou s H E).nox (defBody st) t ∧
        t { nx := fun _ J => Q .non J, rt := Q } (start N vs) H) :
    FnG P w K mg bs CX0 (k + 1) f fd ps sp := by
  obtain ⟨oc, od, kV, doc, pm, an, cdv, ct, osl, rfl, lk, hcd⟩ := F.ex
  refine fn_ofG lk hcd S ln fun A ou s H vs Q E gd rm pr => ?_
  obtain ⟨t, p, rd⟩ := hb cdv A ou s H vs Q E gd rm pr
  exact ⟨t, p.nox, rd⟩

section
variable {X : Cx} {CX : CXT} {k : Nat} {f : Addr} {fd : FuncData} {ps : List Str} {sp : Sp}
  {dvs : List V} {ds : List Value} {E : XK} {x : Str} {p pos : Pos} {e : Expr} {es : List Expr} {t : TA}
/-- f(..) of such a def -/
theorem pe_callG (F : FnG X.prog X.w X.K X.mg X.base CX k f fd ps sp) (gd : X.A.guards = some [])
    (rm : Room k X.A) (hg : Gl X x) (hm : X.mg x = some (.ref f))
    (hk : PySem.W.keepIn X.K (.ref f) = true) (hb : Binds X.K fd ps ds) (hd : Vals dvs ds)
    (hx : Passes CX X E) (ha : PA X (e :: es) t)
    (n1 : (x == ("__debug__" : Str)) = false := by decide)
    (n2 : starEach (e :: es) X.env = (false, eval e X.env) :: starEach es X.env := by rfl)
    (n3 : (backTo pos (starEach es X.env)).any (·.1) = false := by rfl) :
    PE X (.Call (.Name x p) (e :: es) [] pos) (tCall sp dvs E t) := by
  refine ⟨fun pins s σ H Q J hw => ?_⟩
  refine wpAny_Call_Name_kw (ld_glob J hg hm ?_ n1)
  refine PySem.W.callWith_K (h₀ := X.base) J.ok.mod.kin hk (thn (ha.run pos pins s σ H _ J hw)
    fun ys s1 ⟨xs, H1, J1, r1, q1⟩ => ⟨J1.kIn, ?_⟩) n2 n3
  have r2 : Vals (xs ++ dvs) (ys ++ ds) := r1.append hd
  have hl : (ys ++ ds).length = ps.length := by
    rw [← r2.length]
    exact F.lenG _ _ _ _ q1
  refine wpAny_call (codeAny_mono (F.runG X.A X.stack s1 H1 ⟨ys, []⟩ (ys ++ ds) (xs ++ dvs) Q E
    gd rm J1.env0 (hb s1 ys J1.kIn hl) r2 q1) fun r s2 z => ?_)
  cases r with
  | error er => exact hx pins σ H1 s1 er s2 J1 z
  | ok fl =>
    cases fl with
    | ret u => exact J1.after z
    | next => exact z.elim
    | brk => exact z.elim
    | cont => exact z.elim
end

section
variable {X : Cx}
/-- what repr gives of a value: its data, and whether it can be shown -/
def rRepr (K : PySem.W.Frag) : List V → Hp → VK → Prop := fun xs H Q =>
  ∃ (v : V) (d : PyData), xs = [v] ∧ Dp K H v d ∧ d.showable = true ∧ d.hasDict = false ∧
    d.depth ≤ 60 ∧ d.shown.length ≤ sizeLine ∧ Q (.str d.shown) H
theorem call_reprD (gd : X.A.guards = some []) (hu : X.A.units + 64 < cLine) :
    CallR X (.builtin "repr") (rRepr X.K) := by
  intro pins s σ H xs us Q I r h
  obtain ⟨v, d, rfl, hd, hs, hn, hp, hz, q⟩ := h
  obtain ⟨u, rfl, rv⟩ := vals1 r
  obtain ⟨as, R⟩ := Dp.reads I d v u hd rv
  cases R with
  | none => exact PySem.P.repr_of_none ⟨.str _, H, I.tok _, ⟨_, rfl⟩, q⟩
  | bool b => exact PySem.P.repr_of_bool ⟨.str _, H, I.tok _, ⟨_, rfl⟩, q⟩
  | int i t =>
    have hi : i.natAbs.log2 < 1920 := by simpa [PyData.showable] using hs
    exact PySem.P.repr_of_int hi ⟨.str _, H, I.tok _, ⟨_, rfl⟩, q⟩
  | str y t => exact PySem.P.repr_of_str ⟨.str _, H, I.tok _, ⟨_, rfl⟩, q⟩ hz
  | list h1 h2 h3 h4 =>
    exact repr_of_reads' (.list h1 h2 h3 h4) hs (PyData.noDict_hsm hn) gd (by omega)
      (fun _ _ e => e) (fun h' u tk k => ⟨.str _, H, I.kept k, ⟨_, rfl⟩, q⟩) hz
  | tuple h1 h2 h3 h4 =>
    exact repr_of_reads' (.tuple h1 h2 h3 h4) hs (PyData.noDict_hsm hn) gd (by omega)
      (fun _ _ e => e) (fun h' u tk k => ⟨.str _, H, I.kept k, ⟨_, rfl⟩, q⟩) hz
  | dict h1 h2 h3 h4 h5 => simp [PyData.hasDict] at hn
end
end G
/-! Data in the heap: none, bools, ints, texts, lists, tuples, dicts; their repr. -/
namespace G
open PySem PySem.Spec PyProof.Rows L2

def kD : Key → PyData
  | .inl i => .int i
  | .inr x => .str x
mutual
inductive Da (H : Hp) : V → PyData → Prop
  | non : Da H .non .none
  | bl (b : Bool) : Da H (.bl b) (.bool b)
  | int (i : Int) : Da H (.int i) (.int i)
  | str (x : Str) : Da H (.str x) (.str x)
  | lst {a : Addr} {xs : List V} {ds : List PyData} : a ≠ sysModules → H a = some (.lst xs) →
      DaAll H xs ds → Da H (.ref a) (.list ds)
  | tup {a : Addr} {xs : List V} {ds : List PyData} : H a = some (.tup xs) →
      DaAll H xs ds → Da H (.ref a) (.tuple ds)
  | dic {a : Addr} {kvs : List (Key × V)} {ds : List PyData} : H a = some (.dK kvs) →
      DaAll H (kvs.map (·.2)) ds → Da H (.ref a) (.dict ((kvs.map fun p => kD p.1).zip ds))
inductive DaAll (H : Hp) : List V → List PyData → Prop
  | nil : DaAll H [] []
  | cons {v : V} {vs : List V} {d : PyData} {ds : List PyData} : Da H v d → DaAll H vs ds →
      DaAll H (v :: vs) (d :: ds)
end
mutual
theorem Da.mono {H H' : Hp} (e : Same H H') {v : V} {d : PyData} : Da H v d → Da H' v d
  | .non => .non
  | .bl b => .bl b
  | .int i => .int i
  | .str x => .str x
  | .lst n h t => .lst n (e _ _ h) (DaAll.mono e t)
  | .tup h t => .tup (e _ _ h) (DaAll.mono e t)
  | .dic h t => .dic (e _ _ h) (DaAll.mono e t)
theorem DaAll.mono {H H' : Hp} (e : Same H H') {vs : List V} {ds : List PyData} :
    DaAll H vs ds → DaAll H' vs ds
  | .nil => .nil
  | .cons h t => .cons (Da.mono e h) (DaAll.mono e t)
end
theorem DaAll.len {H : Hp} : ∀ {vs : List V} {ds : List PyData}, DaAll H vs ds → vs.length = ds.length
  | _, _, .nil => rfl
  | _, _, .cons _ t => by simp [DaAll.len t]

theorem pairs_reads {P : Program} {w : World} {h : Heap} : ∀ {es : List DictEntry} {kvs : List (Key × V)}
    {vs : List (Key × Value)}, Pairs (mixKind P w) es vs → KV kvs vs →
    ReadsAll h (es.map (·.key)) (kvs.map fun p => kD p.1) [] ∧ Vals (kvs.map (·.2)) (es.map (·.val))
  | _, _, _, .nil, r => by cases r; exact ⟨.nil, .nil⟩
  | _, _, _, .cons (e := e) k1 k2 t, r => by
    cases r with
    | cons r1 r2 =>
      obtain ⟨q1, q2⟩ := pairs_reads (h := h) t r2
      obtain ⟨e1, e2⟩ := r1
      refine ⟨?_, .cons (show L2.RelV _ e.val by rw [k2]; exact e2) q2⟩
      rw [← e1] at k1
      have sh := keyIs_shape (show keyIs _ e.key = true from k1)
      simp only [List.map_cons]
      rcases sh with ⟨i, tk, z1, z2⟩ | ⟨x, tk, z1, z2⟩
      · rw [z1, z2]
        exact ReadsAll.cons (as := []) (bs := []) (.int i tk) q1
      · rw [z1, z2]
        exact ReadsAll.cons (as := []) (bs := []) (.str x tk) q1

section
variable {X : Cx} {pins : List (Addr × Obj)} {σ : L2.St} {H : Hp} {s : Shared}
mutual
theorem Da.reads (I : Inv X pins σ H s) {v : V} {d : PyData} {u : Value} :
    Da H v d → RelV v u → ∃ as, Reads s.heap u d as ∧ sysModules ∉ as
  | .non, r => by
    obtain rfl : u = Value.none := r
    exact ⟨_, .none, by simp⟩
  | .bl b, r => by
    obtain rfl : u = Value.bool b := r
    exact ⟨_, .bool b, by simp⟩
  | .int i, r => by
    obtain ⟨t, rfl⟩ := r
    exact ⟨_, .int i t, by simp⟩
  | .str x, r => by
    obtain ⟨t, rfl⟩ := r
    exact ⟨_, .str x t, by simp⟩
  | .lst (a := a) (xs := xs) n h t, r => by
    obtain rfl : u = Value.ref a := r
    obtain ⟨_, its, m, rv, ho⟩ := (show ObjOk X.prog X.w H s.heap a (.lst xs) from I.hok a _ h)
    obtain ⟨as, q, z⟩ := DaAll.reads I t rv
    refine ⟨_, .list (vs := its.toArray) ho rfl rfl (by simpa using q), ?_⟩
    intro hm
    rcases List.mem_cons.mp hm with e | e
    · exact n e.symm
    · exact z e
  | .tup (a := a) (xs := xs) h t, r => by
    obtain rfl : u = Value.ref a := r
    obtain ⟨_, its, rv, o, ho, hc, m, hd⟩ := (show ObjOk X.prog X.w H s.heap a (.tup xs) from I.hok a _ h)
    obtain ⟨as, q, z⟩ := DaAll.reads I t rv
    exact ⟨_, .tuple (vs := its.toArray) ho hc hd (by simpa using q), z⟩
  | .dic (a := a) (kvs := kvs) (ds := ds) h t, r => by
    obtain rfl : u = Value.ref a := r
    obtain ⟨_, ns, vs, kv, o, es, ep, ho, ex, hd, _, pr, _⟩ :=
      (show ObjOk X.prog X.w H s.heap a (.dK kvs) from I.hok a _ h)
    obtain ⟨q1, q2⟩ := pairs_reads (h := s.heap) pr kv
    obtain ⟨as, q3, z⟩ := DaAll.reads I t q2
    have hl := t.len
    have hl2 : (kvs.map fun p => kD p.1).length = ds.length := by simpa using hl
    have e1 : ((kvs.map fun p => kD p.1).zip ds).map (·.1) = kvs.map fun p => kD p.1 :=
      List.map_fst_zip (by omega)
    have e2 : ((kvs.map fun p => kD p.1).zip ds).map (·.2) = ds := List.map_snd_zip (by omega)
    refine ⟨_, .dict ho ex.1 hd (by rw [e1]; exact q1) (by rw [e2]; exact q3), ?_⟩
    intro hm
    rcases List.mem_cons.mp (show sysModules ∈ a :: ([] ++ as) by simpa using hm) with e | e
    · rw [← e] at ns
      simp at ns
    · exact z (by simpa using e)
theorem DaAll.reads (I : Inv X pins σ H s) {vs : List V} {ds : List PyData} {us : List Value} :
    DaAll H vs ds → Vals vs us → ∃ as, ReadsAll s.heap us ds as ∧ sysModules ∉ as
  | .nil, r => by
    cases r
    exact ⟨_, .nil, by simp⟩
  | .cons h t, r => by
    cases r with
    | cons r1 r2 =>
      obtain ⟨as, q1, z1⟩ := Da.reads I h r1
      obtain ⟨bs, q2, z2⟩ := DaAll.reads I t r2
      exact ⟨_, .cons q1 q2, by simp [z1, z2]⟩
end
end

/-- data that can be shown, and not too long -/
def OkD (d : PyData) : Prop :=
  d.showable = true ∧ d.leavesShort 600 = true ∧ d.weight ≤ 20000 ∧ d.depth ≤ 60
theorem OkD.size {d : PyData} (h : OkD d) : d.shown.length ≤ sizeLine := by
  have q := PyData.shown_le 600 (by decide) d h.2.1
  have e := h.2.2.1
  have e2 : (600 + 2) * d.weight ≤ 602 * 20000 := Nat.mul_le_mul (by decide) e
  rw [sizeLine_eq]
  omega

section
variable {X : Cx}
def rRep : List V → Hp → VK → Prop := fun xs H Q =>
  ∃ (v : V) (d : PyData), xs = [v] ∧ Da H v d ∧ OkD d ∧ Q (.str d.shown) H
theorem call_rep (gd : X.A.guards = some []) (hu : X.A.units + 64 < cLine) :
    CallR X (.builtin "repr") rRep := by
  intro pins s σ H xs us Q I r h
  obtain ⟨v, d, rfl, hd, ok, q⟩ := h
  obtain ⟨u, rfl, rv⟩ := vals1 r
  obtain ⟨as, R, nm⟩ := hd.reads I rv
  have hz := ok.size
  have hp := ok.2.2.2
  have hs := ok.1
  cases R with
  | none => exact PySem.P.repr_of_none ⟨.str _, H, I.tok _, ⟨_, rfl⟩, q⟩
  | bool b => exact PySem.P.repr_of_bool ⟨.str _, H, I.tok _, ⟨_, rfl⟩, q⟩
  | int i t =>
    have hi : i.natAbs.log2 < 1920 := by simpa [PyData.showable] using hs
    exact PySem.P.repr_of_int hi ⟨.str _, H, I.tok _, ⟨_, rfl⟩, q⟩
  | str y t => exact PySem.P.repr_of_str ⟨.str _, H, I.tok _, ⟨_, rfl⟩, q⟩ hz
  | list h1 h2 h3 h4 =>
    exact repr_of_reads' (.list h1 h2 h3 h4) hs (fun _ => nm) gd (by omega)
      (fun _ _ e => e) (fun h' u tk k => ⟨.str _, H, I.kept k, ⟨_, rfl⟩, q⟩) hz
  | tuple h1 h2 h3 h4 =>
    exact repr_of_reads' (.tuple h1 h2 h3 h4) hs (fun _ => nm) gd (by omega)
      (fun _ _ e => e) (fun h' u tk k => ⟨.str _, H, I.kept k, ⟨_, rfl⟩, q⟩) hz
  | dict h1 h2 h3 h4 h5 =>
    exact repr_of_reads' (.dict h1 h2 h3 h4 h5) hs (fun _ => nm) gd (by omega)
      (fun _ _ e => e) (fun h' u tk k => ⟨.str _, H, I.kept k, ⟨_, rfl⟩, q⟩) hz

/-- a list display, its place not that of sys.modules -/
def tLstS (t : TA) : TE := fun σ H Q => t σ H fun xs H1 => xs.length ≤ sizeLine ∧
  ∀ p, H1 p = none → p ≠ sysModules → Q (.ref p) (upd H1 p (.lst xs))
theorem pe_lstS {es : List Expr} {t : TA} {pos : Pos} (h : PA X es t) : PE X (.List es pos) (tLstS t) := by
  refine ⟨fun pins s σ H Q I hq => ?_⟩
  refine wpAny_List_spliced (thn (h.run pos pins s σ H _ I hq) fun us s1 ⟨xs, H1, I1, r, z, q⟩ =>
    ⟨by rw [← r.length]; exact z, ?_⟩)
  have fr : H1 s1.heap.objs.size = none := I1.hok.fresh (Nat.le_refl _)
  refine ⟨.ref s1.heap.objs.size, upd H1 s1.heap.objs.size (.lst xs), I1.laid (t' := s1.toks)
    (fun b u e => Heap.get?_push_of_some _ e) (Nat.le_refl _) ?_, rfl, q _ fr (Nat.ne_of_gt I1.big)⟩
  exact ⟨z, us, 0, r, Heap.get?_push_size _ rfl⟩

/-- isinstance(x, T) for data and a built-in T -/
def tyD : PyData → String
  | .none => "NoneType"
  | .bool _ => "bool"
  | .int _ => "int"
  | .str _ => "str"
  | .list _ => "list"
  | .tuple _ => "tuple"
  | .dict _ => "dict"
theorem Da.ty {K : PySem.W.Frag} {H : Hp} {v : V} {d : PyData} (h : Da H v d) :
    TyX K H v (.type (tyD d)) := by
  cases h with
  | non => exact .base .non
  | bl b => exact .base (.bl b)
  | int i => exact .base (.int i)
  | str x => exact .base (.str x)
  | lst n h t => exact .base (.lst h)
  | tup h t => exact .base (.tup h)
  | dic h t => exact .base (.dK h)
end

/-- the heap without what stands at r -/
def hide (r : Addr) (H : Hp) : Hp := fun q => if q = r then none else H q
theorem hide_same (r : Addr) (H : Hp) : Same (hide r H) H := fun b o e => by
  unfold hide at e
  split at e
  · cases e
  · exact e
theorem hide_get {r b : Addr} {H : Hp} {o : HO} (n : b ≠ r) (h : H b = some o) : hide r H b = some o := by
  unfold hide
  rw [if_neg n]
  exact h
end G
/-! The end of a row from a law's promise that may use that no repr is under way. -/
namespace G
open PySem PySem.Spec PyProof.Rows L2

theorem law_callG {P : Program} {w : World} {K : PySem.W.Frag} {mg mb : Str → Option Value} {k : Nat}
    {f a : Addr} {fd : FuncData} {x : Str} {sp : Sp} {st : Shared} {us : List Value} {ns : List Int}
    (inK : K.In st.heap) (hg : st.heap.Ns mainGlobals mg) (hb : st.heap.Ns builtinsNs mb)
    (bb : ∀ y : Str, y ≠ "__name__" → mb y = bootBuiltins y) (nl : st.heap.NoLimit)
    (gn : st.gens = #[])
    (ho : st.heap.get? a = some { cls := .type "list", data := .seq us.toArray }) (hi : IntsAre us ns)
    (hl : ns.length ≤ sizeLine) (rm : Room k callerA)
    (F : ∀ bs : Heap, K.In bs → bs.Ns mainGlobals mg → FnG P w K mg bs CX0 k f fd [x] sp)
    (bind : ∀ (s : Shared) (u : Value), BindsTo s fd ⟨[u], []⟩ [(x, u)])
    (hsp : ∀ H : Hp, Only H → SqL K H a (ns.map V.int) →
      sp [.ref a] H (fun v _ => v = .bl true) fun _ _ _ => False) :
    codeAny (model P w) callerA (.call (.ref f) ⟨[.ref a], []⟩)
      (fun r s' => r = .ok (.ret (.bool true)) ∧ OldK st.heap s'.heap ∧ s'.os = st.os ∧
        AllBare s'.gens) st := by
  have vls := vals_ints hi
  have len := hi.length
  have main : ∀ H : Hp, Only H → SqL K H a (ns.map V.int) → HOk P w H st.heap →
      (∀ b, H b ≠ none → b = a) → (H a ≠ none → K.lookup a = none) →
      codeAny (model P w) callerA (.call (.ref f) ⟨[.ref a], []⟩)
        (fun r s' => r = .ok (.ret (.bool true)) ∧ OldK st.heap s'.heap ∧ s'.os = st.os ∧
          AllBare s'.gens) st := by
    intro H only sq hok at_a noK
    have dict_free : ∀ {b : Addr} {o : Obj} {es : Array DictEntry} {ep : Nat},
        st.heap.get? b = some o → o.data = .dict es ep → H b = none := by
      intro b o es ep e d
      cases q : H b with
      | none => rfl
      | some z =>
        have e2 : b = a := at_a b (by rw [q]; simp)
        rw [e2, ho] at e
        cases e
        cases (show Data.seq us.toArray _ = Data.dict es ep from d)
    have keepN : ∀ {b : Addr} {m : Str → Option Value}, st.heap.Ns b m →
        (hidT st.heap H).Ns b m := by
      rintro b m ⟨o, es, ep, e, d, r⟩
      exact ⟨o, es, ep, hidT_get e (dict_free e d), d, r⟩
    have inB : K.In (hidT st.heap H) := by
      intro b o e
      refine hidT_get (inK b o e) ?_
      cases q : H b with
      | none => rfl
      | some z =>
        have e2 : b = a := at_a b (by rw [q]; simp)
        subst e2
        rw [noK (by rw [q]; simp)] at e
        cases e
    obtain ⟨mc, n1, n2⟩ := nl
    have md : Mod K mg (hidT st.heap H) := ⟨inB, keepN hg, ⟨mb, keepN hb, bb⟩, mc, keepN n1, n2⟩
    have ev : Env0 P w K mg (hidT st.heap H) callerA [] st H :=
      ⟨rfl, md, fun b o e => of_hidT e, Nat.le_of_eq (hidT_size _ _), trivial,
        fun b z => (by simp [frs] at z), hok, .of_eq gn⟩
    refine codeAny_mono ((F _ inB (keepN hg)).runG callerA [] st H ⟨[.ref a], []⟩ [.ref a] [.ref a]
      _ _ rfl rm ev (bind st (.ref a)) (.cons rfl .nil) (hsp H only sq)) fun r s2 z => ?_
    cases r with
    | error e => exact z.elim
    | ok fl =>
      cases fl with
      | next => exact z.elim
      | brk => exact z.elim
      | cont => exact z.elim
      | ret u =>
        obtain ⟨v, H2, os, bare, un, hok2, rv, q⟩ := z
        have qv : v = .bl true := q
        subst qv
        obtain rfl : u = Value.bool true := rv
        refine ⟨rfl, OldK.of_keep fun b o e => ?_, os, bare⟩
        cases q2 : H b with
        | none => exact un.keep b o e q2 (fun z => by simp [frs] at z) (by simp)
        | some z =>
          rcases only b with y | ⟨ob, xs, y⟩
          · rw [q2] at y
            cases y
          · obtain ⟨m1, _⟩ := hok b _ y
            obtain ⟨m2, _⟩ := hok2 b _ (un.frzs b ob _ y)
            rw [e] at m1
            cases m1
            exact m2
  cases hk : K.lookup a with
  | some o =>
    have e := inK a o hk
    rw [ho] at e
    cases e
    refine main (fun _ => none) (fun _ => .inl rfl) (.inr ⟨_, us.toArray, _, hk, rfl, rfl, rfl, ?_, ?_⟩)
      (fun b u z => nomatch (show (none : Option HO) = some u from z)) (fun b z => absurd rfl z)
      fun z => absurd rfl z
    · rw [List.size_toArray, len]
      exact hl
    · simpa using vls
  | none =>
    refine main (fun b => if b = a then some (.frz { cls := .type "list", data := .seq us.toArray }
      (.lst (ns.map V.int))) else none) (fun b => ?_) (.inl (.inr ⟨_, if_pos rfl⟩)) (fun b u z => ?_)
      (fun b z => ?_) fun _ => hk
    · by_cases e : b = a
      · exact .inr ⟨_, _, if_pos e⟩
      · exact .inl (if_neg e)
    · by_cases e : b = a
      · have z2 := (if_pos e).symm.trans z
        cases z2
        subst e
        exact ⟨ho, by rw [List.length_map]; exact hl, us, _, vls, ho⟩
      · have z2 := (if_neg e).symm.trans z
        cases z2
    · by_cases e : b = a
      · exact e
      · exact absurd (if_neg e) z

/-- the goal that the head leaves -/
theorem walk_ofG {l : PySem.W.OpenLaw} {n k : Nat} {q : Program} {loose : List Str}
    {XP : (Str → Option Value) → Heap → Prop} {YP : World → Heap → Prop} {d : DefRec}
    {K : Params → PySem.W.Frag} {sp : World → Sp} {x : Str} (hn : l.most = some n) (n2 : n ≤ sizeLine)
    (hd : d.params.defaults = []) (rm : Room k callerA)
    (hY : ∀ (w : World) (h : Heap), YP w h → (K w.params).In h)
    (F : ∀ (w : World) (mg : Str → Option Value) (fa : Addr) (h : Heap), (K w.params).In h →
      h.Ns mainGlobals mg → mg d.name = some (.ref fa) →
      ∃ fd : FuncData, (∀ (s : Shared) (u : Value), BindsTo s fd ⟨[u], []⟩ [(x, u)]) ∧
        ∀ bs : Heap, (K w.params).In bs → bs.Ns mainGlobals mg →
          FnG l.prog w (K w.params) mg bs CX0 k fa fd [x] (sp w))
    (hsp : ∀ (w : World) (H : Hp) (a : Addr) (ns : List Int), ns.length ≤ n → Only H →
      SqL (K w.params) H a (ns.map V.int) →
      sp w [.ref a] H (fun v _ => v = .bl true) fun _ _ _ => False) :
    PySem.W.WalkO q loose XP YP l.row.toRowW d [] (fun f vs => PySem.call f vs) := by
  refine Att.attach_call hn hd
    fun w s0 s1 mg mb fa o pm cd doc a us ns Gr Y _ _ _ hmg hobj hints hlen gn => ?_
  have inK := hY w _ Y
  obtain ⟨fd, hb, hF⟩ := F w mg fa _ inK Gr.T.g hmg
  exact law_callG inK Gr.T.g Gr.T.b Gr.T.builtins Gr.T.nolimit gn hobj hints
    (Nat.le_trans hlen n2) rm hF hb fun H hO hS => hsp w H a ns hlen hO hS
end G
/-! What the laws' texts have in common: the drawn numbers, heaps that grow, data that can be shown. -/
namespace G
open PySem PySem.Spec PyProof.Rows L2

def Rng (H : Hp) (r : Addr) : Prop :=
  ∃ a b : Int, H r = some (.lst [.int a, .int b]) ∧ 0 ≤ a ∧ 0 ≤ b ∧ b < 2147483587
/-- all but what stands at r is kept -/
def Ext (r : Addr) (H H' : Hp) : Prop := ∀ q o, q ≠ r → H q = some o → H' q = some o
theorem Ext.refl (r : Addr) (H : Hp) : Ext r H H := fun _ _ _ h => h
theorem Ext.trans {r : Addr} {H H1 H2 : Hp} (a : Ext r H H1) (b : Ext r H1 H2) : Ext r H H2 :=
  fun q o n h => b q o n (a q o n h)
theorem Ext.new {r p : Addr} {H : Hp} {o : HO} (h : H p = Option.none) : Ext r H (upd H p o) :=
  fun q u _ e => by rw [upd_ne (ne_of_none e h)]; exact e
theorem Ext.at {r : Addr} {H : Hp} {o : HO} : Ext r H (upd H r o) :=
  fun q u n e => by rw [upd_ne n]; exact e
theorem Ext.of {r : Addr} {H H' : Hp} (h : Same H H') : Ext r H H' := fun q o _ e => h q o e
theorem Ext.none {r p : Addr} {H H' : Hp} (e : Ext r H H') (n : p ≠ r) (h : H' p = Option.none) : H p = Option.none := by
  cases z : H p with
  | none => rfl
  | some o =>
    rw [e p o n z] at h
    cases h
theorem Rng.same {r : Addr} {H H' : Hp} (R : Rng H r) (s : Same H H') : Rng H' r := by
  obtain ⟨a, b, e, z⟩ := R
  exact ⟨a, b, s _ _ e, z⟩
theorem Rng.new {r p : Addr} {H : Hp} {o : HO} (R : Rng H r) (h : H p = Option.none) : Rng (upd H p o) r := by
  obtain ⟨a, b, e, z⟩ := R
  exact ⟨a, b, by rw [upd_ne (ne_of_none e h)]; exact e, z⟩
theorem Rng.put {r p : Addr} {H : Hp} {o : HO} (R : Rng H r) (h : p ≠ r) : Rng (upd H p o) r := by
  obtain ⟨a, b, e, z⟩ := R
  exact ⟨a, b, by rw [upd_ne h.symm]; exact e, z⟩
theorem Rng.free {r p : Addr} {H : Hp} (R : Rng H r) (h : H p = Option.none) : r ≠ p := by
  obtain ⟨a, b, e, z⟩ := R
  exact ne_of_none e h
theorem Rng.ne {r p : Addr} {H : Hp} {o : HO} (R : Rng H r) (h : H p = some o) (n : ∀ a b, o ≠ .lst [.int a, .int b]) : p ≠ r := by
  obtain ⟨a, b, e, z⟩ := R
  exact ne_of h e (n a b)
theorem new_same {p : Addr} {J : Hp} {o : HO} (h : J p = none) : Same J (upd J p o) :=
  fun b u e => by rw [upd_ne (ne_of_none e h)]; exact e

def spRng (K : PySem.W.Frag) : Sp := fun vs H Q _ => ∃ (a : Addr) (ns : List Int) (k : Int),
  vs = [.ref a, .int k] ∧ SqL K H a (ns.map V.int) ∧ 0 ≤ k ∧ k ≤ 1000 ∧
  ∀ r H', H r = none → Same H H' → Rng H' r → Q (.ref r) H'
def spDraw : Sp := fun vs H Q _ => ∃ (r : Addr) (m : Int), vs = [.ref r, .int m] ∧ Rng H r ∧ 0 < m ∧
  m.natAbs < 2 ^ 250 ∧ ∀ (d : Int) (H' : Hp), Ext r H H' → Rng H' r → 0 ≤ d → d < m → Q (.int d) H'
def spChoice (K : PySem.W.Frag) : Sp := fun vs H Q _ => ∃ (r l : Addr) (xs : List V),
  vs = [.ref r, .ref l] ∧ Rng H r ∧ SqL K H l xs ∧ l ≠ r ∧ 0 < xs.length ∧ xs.length ≤ 1000 ∧
  ∀ (v : V) (H' : Hp), Ext r H H' → Rng H' r → v ∈ xs → Q v H'
theorem Ext.sqL {K : PySem.W.Frag} {r a : Addr} {H H' : Hp} {xs : List V} (e : Ext r H H') (n : a ≠ r)
    (h : SqL K H a xs) : SqL K H' a xs := by
  rcases h with (h | ⟨o, h⟩) | h
  · exact .inl (.inl (e _ _ n h))
  · exact .inl (.inr ⟨o, e _ _ n h⟩)
  · exact .inr h
theorem sq_ext {K : PySem.W.Frag} {r a : Addr} {J0 J : Hp} {xs : List V} (h : SqL K J0 a xs) (n : J0 r = none)
    (e : Ext r J0 J) : SqL K J a xs := by
  rcases h with (h | ⟨o, h⟩) | h
  · exact .inl (.inl (e _ _ (ne_of_none h n) h))
  · exact .inl (.inr ⟨o, e _ _ (ne_of_none h n) h⟩)
  · exact .inr h
theorem at_in {α : Type} {xs : List α} {i : Int} {v : α} (h0 : 0 ≤ i)
    (h : xs[i.toNat]? = some v) : atI xs i = some v := by
  have e : i = ((i.toNat : Nat) : Int) := by omega
  rw [e]
  exact atI_nat h
theorem at_mem {α : Type} {xs : List α} {i : Int} (h0 : 0 ≤ i) (h1 : i < xs.length) :
    ∃ c, atI xs i = some c ∧ c ∈ xs := by
  have h2 : i.toNat < xs.length := by omega
  exact ⟨xs[i.toNat], at_in h0 (by simp [h2]), List.getElem_mem _⟩
theorem yesT {σ : L2.St} {H : Hp} {a b : Hp → Prop} (h : a H) :
    tYes σ H fun k J => if k = true then a J else b J := by
  show if true = true then a H else b H
  exact iteT h
theorem take_next {α : Type} {l : List α} {i : Nat} {c : α} (h : l[i]? = some c) :
    l.take (i + 1) = l.take i ++ [c] := by
  rw [List.take_add_one, h]
  rfl
def okB (d : PyData) : Bool :=
  d.showable && d.leavesShort 600 && decide (d.weight ≤ 20000) && decide (d.depth ≤ 60)
theorem okd {d : PyData} (h : okB d = true) : OkD d := by
  simp only [okB, Bool.and_eq_true, decide_eq_true_eq] at h
  exact ⟨h.1.1.1, h.1.1.2, h.1.2, h.2⟩

section
variable {X : Cx} {CX : CXT} {k : Nat} {f : Addr} {fd : FuncData} {ps ks : List Str} {sp : Sp} {E : XK}
  {x : Str} {p pos : Pos} {kws : List Keyword} {tk : TA}
/-- f(k = v, ..), keywords alone: o puts their values in the parameters' order -/
theorem pe_callKw {m : Nat} (oV : List V → List V) (o : List Value → List Value)
    (F : FnOk X.prog X.w X.K X.mg X.base CX k f fd ps sp) (rm : Room k X.A)
    (hg : Gl X x) (hm : X.mg x = some (.ref f)) (hk : PySem.W.keepIn X.K (.ref f) = true)
    (bt : ∀ (s : Shared) (ws : List Value), ws.length = m → BindsTo s fd ⟨[], ks.zip ws⟩ (ps.zip (o ws)))
    (rel : ∀ (zs : List V) (ws : List Value), zs.length = m → Vals zs ws → Vals (oV zs) (o ws)) (hx : Passes CX X E)
    (hkw : PK X kws tk)
    (a1 : (backToKw pos (keywordEach kws X.env)).all (·.1.isSome) = true := by rfl)
    (a2 : (backToKw pos (keywordEach kws X.env)).filterMap (·.1) = ks := by rfl)
    (n1 : (x == ("__debug__" : Str)) = false := by decide)
    (n3 : ((backTo pos (starEach [] X.env)).any (·.1) || (backToKw pos (keywordEach kws X.env)).any (·.1.isNone)) = false := by rfl) :
    PE X (.Call (.Name x p) [] kws pos) (fun σ H Q => tk σ H fun zs H1 => zs.length = m ∧ sp (oV zs) H1 Q E) := by
  refine ⟨fun pins s σ H Q J hw => ?_⟩
  refine wpAny_Call_Name_kw (ld_glob J hg hm ?_ n1)
  refine PySem.W.callWith_KW0 (h₀ := X.base) J.ok.mod.kin hk a1 (thn (hkw.run pos pins s σ H _ J hw)
    fun ws s1 ⟨zs, H1, J1, r1, l1, q1⟩ => ⟨J1.kIn, ?_⟩) n3
  rw [a2]
  have r2 := rel zs ws l1 r1
  refine wpAny_call (codeAny_mono (F.run X.A X.stack s1 H1 ⟨[], ks.zip ws⟩ (o ws) (oV zs) Q E
    rm J1.env0 (bt s1 ws (by rw [← r1.length]; exact l1)) r2 q1) fun r s2 z => ?_)
  cases r with
  | error er => exact hx pins σ H1 s1 er s2 J1 z
  | ok fl =>
    cases fl with
    | ret u => exact J1.after z
    | next => exact z.elim
    | brk => exact z.elim
    | cont => exact z.elim
end
end G
set_option maxHeartbeats 2000000
/-! Errors of the program's own that have fields: made, raised, caught, asked for their class. -/
namespace G
open PySem PySem.Spec PyProof.Rows PySem.Calls PySem.W L2

theorem findObj_dat {K : Frag} {C : Addr} {od : Option Obj} {nm : Str} {a g : Value} (h0 : (clsIn K C).isSome = true)
    (h1 : findIn K (.ref C) nm = some (some a)) (h2 : specialIn K a "__get__" = some (some g))
    (h3 : takesIn K a = some true) : findObj K C od nm = some (.bind g a) := by
  obtain ⟨cd, hc⟩ := Option.isSome_iff_exists.mp h0
  simp [findObj, hc, h1, h2, h3]

section
variable {prog : Program} {w : World} {A : Around} {E : Value → Shared → Prop} {s : Shared} {K : Frag} {x D : Addr} {ox : Obj} {od : Option Obj}
/-- the class of an error that has its fields -/
theorem cls_exc {Q : Option Value → Shared → Prop} (C : ExcC K D) (inK : K.In s.heap) (I : InstAt s.heap x ox D od)
    (h : Q (some (.ref D)) { s with toks := s.toks + 1 }) : wpAny (model prog w) A (getAttr? (.ref x) "__class__") Q E s := by
  have cs : (clsIn K D).isSome = true := by obtain ⟨cd, hc, _⟩ := any_some C.hd; rw [hc]; rfl
  have found : findObj K D od "__class__" = some (.bind (.builtin "getset_descriptor.__get__") (.builtin "object.__class__")) :=
    findObj_dat cs C.ha C.hn C.ht
  obtain ⟨hp, g, d, t, os⟩ := s
  have ty := I.type (M := model prog w)
  have l1 := looks_findIn (M := model prog w) inK C.hg
  have l2 := looks_findIn (M := model prog w) inK C.hk
  have l3 := looks_find (M := model prog w) inK I found
  have sb : Looks (model prog w) hp (isInstance (.ref x) (.type "BaseException")) true := ty.andThen (looks_subIn inK C.hs)
  have n0 : (false && onTheHeap (Value.builtin "BaseException.__getattribute__")) = false := rfl
  have n2 : (Value.builtin "BaseException.__getattribute__" == Value.builtin "object.__getattribute__") = false := by decide +kernel
  have n1 : (onTheHeap (Value.ref D) && Value.builtin "BaseException.__getattribute__" == Value.builtin "object.__getattribute__") = false := by
    rw [n2]; rfl
  unfold getAttr? getAttrBy? getAttrBy
  refine wpAny_bind (wpAny_mkText (wpAny_bind (wpAny_attempt (wpAny_holding (wpAny_bind (ty.at (wpAny_bind (l1.at ?_))))))))
  show wpAny _ _ (if (onTheHeap (Value.ref D) &&
    Value.builtin "BaseException.__getattribute__" == Value.builtin "object.__getattribute__") = true then _ else _) _ _ _
  rw [n1, if_neg Bool.false_ne_true]
  unfold getAttrByItsOwn hookBefore
  refine wpAny_bind ?_
  rw [if_pos (show onTheHeap (Value.ref D) = true from rfl)]
  refine l2.at (wpAny_bind (wpAny_attempt (wpAny_holding ?_)))
  unfold callGetattribute
  rw [n0, if_neg Bool.false_ne_true]
  unfold boundAndCalled
  rw [PySem.F.excAttr_ValueError.ga.bind (.ref x)]
  refine wpAny_bind (wpAny_pure ?_)
  show wpAny _ _ (call (.builtin "BaseException.__getattribute__")
    [.ref x, .str "__class__" t]) _ _ _
  refine wpAny_call (codeAny_call_builtin PySem.F.excAttr_ValueError.ga.plain
    PySem.F.entry_bexc_ga ?_)
  refine @check_slot (model prog w) _ _ ⟨hp, g, d, t + 1, os⟩ "BaseException.__getattribute__" "BaseException"
    "__getattribute__" (.ref x) [.str "__class__" t] [] _ (by decide +kernel) (by decide +kernel) sb
    (PySem.F.args_bexc_ga (.ref x) (.str "__class__" t)) ?_
  unfold Builtin.«object.__getattribute__»
  refine wpAny_bind (wpAny_of_eq (a := ((Value.ref x : Value), [Value.str "__class__" t]))
    (by first | rfl | (simp only [slotArgs]; rfl)) ?_)
  refine wpAny_bind (wpAny_pure (wpAny_bind (ty.at (wpAny_bind (l3.at ?_)))))
  show wpAny _ _ (holding [Value.builtin "object.__class__"] (call (.builtin "getset_descriptor.__get__")
    [.builtin "object.__class__", .ref x, .ref D]) >>= ret) _ _ _
  refine wpAny_bind (wpAny_holding (wpAny_call (class_get (s := ⟨hp, g, d, t + 1, os⟩) (ox := ox)
    (od := od) inK I C.hm ?_)))
  refine wpAny_pure ?_
  show wpAny _ _ (handedOut (.ref D)) _ _ _
  rw [handedOut_of (v := .ref D) rfl]
  first
    | exact wpAny_pure (wpAny_pure h)
    | exact wpAny_pure h
    | exact wpAny_pure (wpAny_bind (wpAny_pure (wpAny_pure h)))
theorem kit_exc (C : ExcC K D) : KitX K (.ref x) (.ref D) (fun h => InstAt h x ox D od) where
  ty := fun _ _ _ I => I.type
  it := fun _ _ inK _ => by
    obtain ⟨cd, hc, _⟩ := any_some C.hd
    unfold clsIn at hc
    split at hc
    · rename_i hob
      intro A' Q' E' s' k q
      unfold isType loadHead
      exact wpAny_bind (wpAny_loadPart (k _ _ (inK _ _ hob)) (wpAny_pure q))
    · cases hc
  ne := fun h tp dd its n sl inK htp => by
    obtain ⟨cd, hc, _⟩ := any_some C.hd
    refine Bool.eq_false_iff.mpr fun q => ?_
    have e : D = tp := Value.ref.inj (beq_iff_eq.mp q)
    subst e
    unfold clsIn at hc
    split at hc
    · rename_i hob
      have z := (inK _ _ hob).symm.trans htp
      cases z
    · cases hc
  ca := fun inK I k => cls_exc C inK I k
end
/-- isinstance(e, c), e the error that the suite holds, its dict at dd -/
theorem call_isX {X : Cx} {a D dd : Addr} {oe : Obj} {pn : List (Addr × Obj)} (C : ExcC X.K D)
    (hz : Zc (.ref D) (some dd) oe) (hf : ∃ vs, oe.data = .fields vs) :
    CallR (X.suite a ((a, oe) :: pn)) (.builtin "isinstance") (fun xs H Q => (∃ fs, H dd = some (.xd fs)) ∧ rIsE X.K D a xs H Q) := by
  intro pins s σ H xs us Q I r h
  obtain ⟨⟨fs, hx⟩, c, cv, b, rfl, hcv, e, q⟩ := h
  obtain ⟨u1, u2, rfl, r1, r2⟩ := vals2 r
  obtain rfl : u1 = Value.ref a := r1
  have ec := hcv _ r2
  subst ec
  obtain ⟨hget, _⟩ := I.pin (a, oe) (List.mem_append.mpr (.inl List.mem_cons_self))
  obtain ⟨vs, hv⟩ := hf
  obtain ⟨mA, ⟨od, es, ep, hod, _⟩, _⟩ := (show ObjOk X.prog X.w H s.heap dd (.xd fs) from I.hok dd _ hx)
  have J : InstAt s.heap a oe D (some od) := by
    obtain ⟨oc, odi, oda, osl⟩ := oe
    obtain ⟨h1, h2⟩ := hz
    dsimp only at h1 h2 hv
    subst h1 h2 hv
    exact ⟨hget, rfl, rfl, hod⟩
  exact kia_one (kit_exc C) I.kIn J e (fun z => nomatch z)
    fun tk => ⟨.bl b, H, I.kept (t' := tk) fun _ _ z => z, rfl, q⟩

/-- an error's own __init__ that keeps one field -/
def spIni (C : Addr) (f : Str) : Sp := fun vs H Q _ => ∃ (a : Addr) (v : V), vs = [.ref a, v] ∧ H a = some (exo a C none) ∧
  ∀ dx, H dx = none → dx ≠ a → Q .non (upd (upd H dx (exd dx [(f, v)])) a (exo a C (some dx)))
/-- what is known of such a class -/
structure XCls (P : Program) (w : World) (K : PySem.W.Frag) (mg : Str → Option Value) (bs : Heap) (nm : Str) (C : Addr) (f : Str) (p : Str) : Prop where
  oex : OexC K C
  xf : XfC K C
  exc : ExcC K C
  no : PySem.W.findIn K (.ref C) f = some none
  gC : mg nm = some (.ref C)
  ini : ∃ (fI : Addr) (fd : FuncData), PySem.W.findIn K (.ref C) "__init__" = some (some (.ref fI)) ∧
    PySem.W.typeIn K (.ref fI) = some (.type "function") ∧ FnOk P w K mg bs CX0 1 fI fd ["self", p] (spIni C f) ∧ Binds K fd ["self", p] []
/-- what the making of such an error comes to -/
theorem made_go {C : Addr} {f : Str} {v : V} {H : Hp} {R : XK} (h : ∀ d, H d = none → R (.ref C) (some d) (upd H d (.xd [(f, v)]))) :
    [v].length ≤ 1000 ∧ ∀ a, H a = none → spIni C f (.ref a :: ([v] ++ [])) (upd H a (exo a C none))
      (fun u H2 => u = .non ∧ ∃ (d : Addr) (fs : List (Str × V)), H2 a = some (exo a C (some d)) ∧ H2 d = some (exd d fs) ∧ H d = none ∧
        R (.ref C) (some d) (upd (del H2 a) d (.xd fs))) (fun _ _ _ => False) := by
  refine ⟨(by show 1 ≤ 1000; decide), fun a ha => ⟨a, v, rfl, upd_same, fun dx hdx ne => ⟨rfl, dx, [(f, v)], upd_same, ?_, ?_, ?_⟩⟩⟩
  · rw [upd_ne ne, upd_same]
  · rw [upd_ne ne] at hdx
    exact hdx
  · have hd : H dx = none := by
      rw [upd_ne ne] at hdx
      exact hdx
    have e : upd (del (upd (upd (upd H a (exo a C none)) dx (exd dx [(f, v)])) a (exo a C (some dx))) a) dx (.xd [(f, v)]) = upd H dx (.xd [(f, v)]) := by
      funext b
      by_cases h1 : b = dx
      · rw [h1, upd_same, upd_same]
      · rw [upd_ne h1, upd_ne h1]
        by_cases h2 : b = a
        · rw [h2, del_same, ha]
        · rw [del_ne h2, upd_ne h2, upd_ne h1, upd_ne h2]
    rw [e]
    exact h dx hd
/-- raise C(e) -/
theorem ps_raiseC {X : Cx} {W : WX} {nm : Str} {C : Addr} {f p : Str} {e : Expr} {te : TE} {np pos pos2 : Pos} (hc : X.calm = true)
    (T : XCls X.prog X.w X.K X.mg X.base nm C f p) (hr : Room 2 X.A) (tk : Takes X W) (hg : Gl X nm) (he : PE X e te)
    (hdb : (nm == ("__debug__" : Str)) = false := by decide) (hs : starEach [e] X.env = (false, eval e X.env) :: starEach [] X.env := by rfl) :
    PS X (.Raise (some (.Call (.Name nm np) [e] [] pos)) none pos2)
      (fun _ σ H => tMkO C (spIni C f) [] (tCons te tNil) σ H fun cls d H' => W cls d σ H') := by
  obtain ⟨fI, fd, h1, h2, h3, h4⟩ := T.ini
  exact ps_raise (pos := pos2) hc tk (pmk_oex (pos := pos) (p := np) T.oex h1 h2 h3 hr h4 .nil (fun _ _ _ _ _ _ _ h => h.elim) hg T.gC (pa_cons he pa_nil hs) hdb hs)
/-- the __init__ of such a class: self.f = p -/
theorem ok_ini {P : Program} {w : World} {K : PySem.W.Frag} {mg : Str → Option Value} {bs : Heap} {ql p f : Str} {st : Stmt} {fI C : Addr} {fd : FuncData}
    {q1 q2 q3 q4 : Pos} (F : Fun K "__init__" ql st fI fd) (S : FnScope ["self", p] ["self", p] (defScope st)) (T : OexC K C)
    (no : PySem.W.findIn K (.ref C) f = some none)
    (hb : defBody st = [.Assign [.Attribute (.Name "self" q1) f q2] (.Name p q3) q4])
    (h1 : (defScope st).names.lookup ("self" : Str) = some .local) (h2 : (defScope st).names.lookup p = some .local)
    (n1 : (p == ("__debug__" : Str)) = false) (n2 : (p == ("__classdict__" : Str)) = false) :
    FnOk P w K mg bs CX0 1 fI fd ["self", p] (spIni C f) := by
  refine F.ok S (fun vs H Q E h => ?_) (fun cdv A outer s H vs Q E hr h => ?_)
  · obtain ⟨a, v, rfl, _⟩ := h
    rfl
  · obtain ⟨a, v, rfl, ha, q⟩ := h
    rw [hb]
    refine ⟨_, pss_one (ps_ost (pe_var (i := 0) rfl (.inl h1) (by decide) (by decide)) (pe_var (i := 1) rfl (.inl h2) n1 n2)), ?_⟩
    exact ⟨_, rfl, _, rfl, a, C, rfl, T, no, .inl ⟨ha, fun dx hd ne => q dx hd ne⟩⟩

/-- as okG, for a def that errors may leave -/
theorem okGX {P : Program} {w : World} {K : PySem.W.Frag} {mg : Str → Option Value} {bs : Heap} {x ql : Str} {st : Stmt} {f : Addr} {fd : FuncData} {N ps : List Str} {k : Nat} {sp : Sp}
    (F : Fun K x ql st f fd) (S : FnScope N ps (defScope st)) (ln : ∀ vs H Q E, sp vs H Q E → vs.length = ps.length)
    (hb : ∀ (cv : Value) (A : Around) (ou : List Env) (s : Shared) (H : Hp) (vs : List V) (Q : VK) (E : XK), A.guards = some [] →
      Room k (A.deeper (envOfC ql (defScope st) s.heap.objs.size f cv)) → sp vs H Q E →
      ∃ t, PSs (cxOf (L2.CX P w) P w K mg bs N ql (defScope st) f cv A ou s H E) (defBody st) t ∧
        t { nx := fun _ J => Q .non J, rt := Q } (start N vs) H) : FnG P w K mg bs (L2.CX P w) (k + 1) f fd ps sp := by
  obtain ⟨oc, od, kV, doc, pm, an, cdv, ct, osl, rfl, lk, hcd⟩ := F.ex
  exact fn_ofG lk hcd S ln fun A ou s H vs Q E gd rm pr => hb cdv A ou s H vs Q E gd rm pr
end G
set_option maxHeartbeats 2000000
namespace G
open PySem PySem.Spec PyProof.Rows PySem.Calls PySem.W L2
section
variable {X : Cx}
/-- s[::-1] of a text: some text of no more signs, all of them its own -/
def tRevS (te : TE) : TE := fun σ H Q => te σ H fun x H1 => ∃ z : Str, x = .str z ∧ z.length ≤ sizeLine ∧
  ∀ y : Str, y.length ≤ z.length → (∀ c ∈ y.cps.toList, c ∈ z.cps.toList) → Q (.str y) H1
theorem pe_revS {e : Expr} {te : TE} {k : Nat} {p1 p2 p3 pos : Pos} (he : PE X e te) :
    PE X (.Subscript e (.Slice none none (some (.UnaryOp .USub (.Constant (.int 1) k p1) p2)) p3) pos) (tRevS te) := by
  refine ⟨fun pins s σ H Q I h => ?_⟩
  refine Subscript_ (thn (he.run pins s σ H _ I h) fun v s1 ⟨x, H1, I1, r1, q1⟩ => ?_)
  obtain ⟨z, ex, hz, q⟩ := q1
  subst ex
  obtain ⟨tz, rfl⟩ := r1
  have stp : PO X (some (.UnaryOp .USub (.Constant (.int 1) k p1) p2)) (tPart (tUn (rU fun i => .int (-i)) (tC (.int 1)))) :=
    po_some (pe_un un_neg pe_int)
  refine wpAny_Slice (thn (po_none.run pins s1 σ H1 (fun o J => o = none ∧ J = H1) I1 ⟨rfl, rfl⟩)
    fun vl s2 ⟨l, H2, I2, pl, el, e2⟩ => ?_)
  subst el e2
  refine thn (po_none.run pins s2 σ H2 (fun o J => o = none ∧ J = H2) I2 ⟨rfl, rfl⟩)
    fun vu s3 ⟨u, H3, I3, pu, eu, e3⟩ => ?_
  subst eu e3
  refine thn (stp.run pins s3 σ H3 (fun o J => o = some (-1) ∧ J = H3) I3 ⟨1, rfl, -1, rfl, rfl, rfl⟩)
    fun vs s4 ⟨o, H4, I4, ps, eo, e4⟩ => ?_
  subst eo e4
  obtain ⟨l', rfl, el⟩ := IsPart.raw pl
  obtain ⟨u', rfl, eu⟩ := IsPart.raw pu
  obtain ⟨st', rfl, es⟩ := IsPart.raw ps
  have I5 : Inv X pins σ H4 { s4 with heap := s4.heap.push { cls := .type "slice", data := .fields #[partValue l', partValue u', partValue st'] } } :=
    I4.kept (t' := s4.toks) fun b ob q => Heap.get?_push_of_some _ q
  show wpAny (model X.prog X.w) X.A (subscriptTail e (.Slice none none (some (.UnaryOp .USub (.Constant (.int 1) k p1) p2)) p3)
    (.str z tz) (.ref s4.heap.objs.size)) (EP X pins σ Q) X.xe
    { s4 with heap := s4.heap.push { cls := .type "slice", data := .fields #[partValue l', partValue u', partValue st'] } }
  refine tail_any (ops := [.str z tz, .ref s4.heap.objs.size]) (typeIs_str _ _ _) F.slot_str_getitem.lookup ?_ (by with_unfolding_all rfl)
  refine wpAny_getItem_str_slice (l := l') (u := u') (st := st') ⟨_, Heap.get?_push_size _ rfl, rfl, rfl⟩ (by rw [es]; rfl) ?_
  have pk : (slicePicked z l' u' st').length ≤ z.length := by
    unfold slicePicked Builtin.Str.strSliceIndices
    rw [el, eu, es]
    exact sliceRange_length_le _ _ _ _ (fun h => absurd h (by decide)) (fun _ => ⟨by show (z.length : Int) - 1 ≤ _; omega, by show (-1 : Int) ≤ -1; omega⟩)
  have ly : (⟨((slicePicked z l' u' st').filterMap (z.cps[·]?)).toArray⟩ : Str).length ≤ z.length := by
    show (List.toArray _).size ≤ _
    rw [List.size_toArray]
    exact Nat.le_trans (List.length_filterMap_le _ _) pk
  have cy : ∀ c ∈ (⟨((slicePicked z l' u' st').filterMap (z.cps[·]?)).toArray⟩ : Str).cps.toList, c ∈ z.cps.toList := by
    intro c hc
    have hc2 : c ∈ (slicePicked z l' u' st').filterMap (z.cps[·]?) := by simpa using hc
    obtain ⟨i, _, hi⟩ := List.mem_filterMap.mp hc2
    rw [← Array.getElem?_toList] at hi
    exact List.mem_of_getElem? hi
  have qy := q _ ly cy
  unfold sliceMade
  rw [es]
  show Made.post (if (((some (-1 : Int)).getD 1 == 1) && _) = true then _ else _) _ _
  rw [show ((some (-1 : Int)).getD 1 == 1) = false from rfl, Bool.false_and, if_neg Bool.false_ne_true]
  exact ⟨Nat.le_trans ly hz, .str _, H4, I5.tok _, ⟨_, rfl⟩, qy⟩
end
end G
set_option maxHeartbeats 2000000
/-! Lambdas handed to a def, where no repr is under way: what stays when a table grows, and the end of a row. -/
namespace G
open PySem PySem.Spec PyProof.Rows L2 LamX

theorem ntL {xs : List V} (ps : Array Value) : HO.lst xs ≠ .tbl ps := fun z => by cases z
theorem ntT {xs : List V} (ps : Array Value) : HO.tup xs ≠ .tbl ps := fun z => by cases z
theorem ntD {xs : List (Key × V)} (ps : Array Value) : HO.dK xs ≠ .tbl ps := fun z => by cases z
theorem ntF {o : Obj} {u : HO} (ps : Array Value) : HO.frz o u ≠ .tbl ps := fun z => by cases z
mutual
theorem Da.monoN {H H' : Hp} (e : ExtN H H') {v : V} {d : PyData} : Da H v d → Da H' v d
  | .non => .non
  | .bl b => .bl b
  | .int i => .int i
  | .str x => .str x
  | .lst n h t => .lst n (e _ _ h ntL) (DaAll.monoN e t)
  | .tup h t => .tup (e _ _ h ntT) (DaAll.monoN e t)
  | .dic h t => .dic (e _ _ h ntD) (DaAll.monoN e t)
theorem DaAll.monoN {H H' : Hp} (e : ExtN H H') {vs : List V} {ds : List PyData} :
    DaAll H vs ds → DaAll H' vs ds
  | .nil => .nil
  | .cons h t => .cons (Da.monoN e h) (DaAll.monoN e t)
end
theorem Rng.extN {r : Addr} {H H' : Hp} (R : Rng H r) (s : ExtN H H') : Rng H' r := by
  obtain ⟨a, b, e, z⟩ := R
  exact ⟨a, b, s _ _ e ntL, z⟩
theorem sq_extN {K : PySem.W.Frag} {a : Addr} {J0 J : Hp} {xs : List V} (h : SqL K J0 a xs) (e : ExtN J0 J) : SqL K J a xs := by
  rcases h with (h | ⟨o, h⟩) | h
  · exact .inl (.inl (e _ _ h ntL))
  · exact .inl (.inr ⟨o, e _ _ h ntF⟩)
  · exact .inr h
theorem ExtN.same {H H' : Hp} (e : Same H H') : ExtN H H' := fun b o h _ => e b o h
/-- the tables where all but what stands at r is kept -/
theorem tabs_ext {T : List (Addr × Str)} {r : Addr} {H H' : Hp} (t : Tabs T H) (e : Ext r H H') (R : Rng H r) : Tabs T H' := by
  obtain ⟨a, b, er, _⟩ := R
  intro p hp
  obtain ⟨ps, h1, h2, h3⟩ := t p hp
  have n1 : p.1 ≠ r := fun z => by
    rw [z, er] at h1
    cases h1
  refine ⟨ps, e _ _ n1 h1, h2, fun pos cv hc => ?_⟩
  obtain ⟨c, e1, e2⟩ := h3 pos cv hc
  have n2 : c ≠ r := fun z => by
    rw [z, er] at e2
    unfold CodeO at e2
    cases e2
  exact ⟨c, e1, e _ _ n2 e2⟩
/-- all but the tables and what stands at r is kept -/
def ExtR (r : Addr) (H H' : Hp) : Prop := ∀ b o, b ≠ r → (∀ ps, o ≠ .tbl ps) → H b = some o → H' b = some o
theorem ExtR.refl (r : Addr) (H : Hp) : ExtR r H H := fun _ _ _ _ h => h
theorem ExtR.trans {r : Addr} {H H1 H2 : Hp} (a : ExtR r H H1) (b : ExtR r H1 H2) : ExtR r H H2 :=
  fun q o n m h => b q o n m (a q o n m h)
theorem ExtR.ext {r : Addr} {H H' : Hp} (e : Ext r H H') : ExtR r H H' := fun q o n _ h => e q o n h
theorem ExtR.extN {r : Addr} {H H' : Hp} (e : ExtN H H') : ExtR r H H' := fun q o _ m h => e q o h m
theorem sq_extR {K : PySem.W.Frag} {r a : Addr} {J0 J : Hp} {xs : List V} (h : SqL K J0 a xs) (n : J0 r = none)
    (e : ExtR r J0 J) : SqL K J a xs := by
  rcases h with (h | ⟨o, h⟩) | h
  · exact .inl (.inl (e _ _ (ne_of_none h n) ntL h))
  · exact .inl (.inr ⟨o, e _ _ (ne_of_none h n) ntF h⟩)
  · exact .inr h
/-- what leaves a lambda's body -/
theorem lam_takes {X : Cx} {A : Around} {ou : List Env} {s : Shared} {H : Hp} {E : XK} {sc : Scope} {f c : Addr} :
    Takes (lamCx X A ou s H E sc f c) (fun cls d _ H => E cls d H) := takes_of rfl rfl rfl rfl
theorem lam_pass {X : Cx} {A : Around} {ou : List Env} {s : Shared} {H : Hp} {E : XK} {sc : Scope} {f c : Addr} :
    Passes (L2.CX X.prog X.w) (lamCx X A ou s H E sc f c) E := passes_call (lam_takes) fun _ _ _ _ h => h

theorem law_callGT {P : Program} {w : World} {K : PySem.W.Frag} {mg mb : Str → Option Value} {k : Nat}
    {f a : Addr} {fd : FuncData} {x : Str} {sp : Sp} {st : Shared} {us : List Value} {ns : List Int}
    {cs : List (Addr × Addr)}
    (inK : K.In st.heap) (hg : st.heap.Ns mainGlobals mg) (hb : st.heap.Ns builtinsNs mb)
    (bb : ∀ y : Str, y ≠ "__name__" → mb y = bootBuiltins y) (nl : st.heap.NoLimit)
    (gn : st.gens = #[])
    (tb : ∀ p ∈ cs, PySem.W.CodeHd st.heap p.1 p.2 ∧ st.heap.get? p.2 = some (PySem.W.tabObj #[]))
    (nk : ∀ p ∈ cs, K.lookup p.2 = none)
    (bm : ∃ (m : Addr) (o : Obj), mg "__builtins__" = some (.ref m) ∧ m ≠ builtinsNs ∧
      st.heap.get? m = some o ∧ o.cls = .type "module" ∧ o.dict = some builtinsNs ∧ o.data = .plain)
    (ho : st.heap.get? a = some { cls := .type "list", data := .seq us.toArray }) (hi : IntsAre us ns)
    (hl : ns.length ≤ sizeLine) (rm : Room k callerA)
    (F : ∀ bs : Heap, K.In bs → bs.Ns mainGlobals mg → (∀ p ∈ cs, TabB bs mg p.1 p.2) →
      FnG P w K mg bs CX0 k f fd [x] sp)
    (bind : ∀ (s : Shared) (u : Value), BindsTo s fd ⟨[u], []⟩ [(x, u)])
    (hsp : ∀ H : Hp, (∀ p ∈ cs, H p.2 = some (.tbl #[])) → SqL K H a (ns.map V.int) →
      sp [.ref a] H (fun v _ => v = .bl true) fun _ _ _ => False) :
    codeAny (model P w) callerA (.call (.ref f) ⟨[.ref a], []⟩)
      (fun r s' => r = .ok (.ret (.bool true)) ∧ OldK st.heap s'.heap ∧ s'.os = st.os ∧
        AllBare s'.gens) st := by
  have vls := vals_ints hi
  have len := hi.length
  have tb2 : ∀ b, b ∈ cs.map (·.2) → st.heap.get? b = some (PySem.W.tabObj #[]) := by
    intro b q
    obtain ⟨p, hp, rfl⟩ := List.mem_map.mp q
    exact (tb p hp).2
  have main : ∀ H : Hp, (∀ p ∈ cs, H p.2 = some (.tbl #[])) →
      (∀ b u, H b = some u → (b = a ∧ K.lookup a = none ∧
        u = .frz { cls := .type "list", data := .seq us.toArray } (.lst (ns.map V.int))) ∨
        (b ∈ cs.map (·.2) ∧ u = .tbl #[])) → SqL K H a (ns.map V.int) →
      codeAny (model P w) callerA (.call (.ref f) ⟨[.ref a], []⟩)
        (fun r s' => r = .ok (.ret (.bool true)) ∧ OldK st.heap s'.heap ∧ s'.os = st.os ∧
          AllBare s'.gens) st := by
    intro H hT hO sq
    have hok : HOk P w H st.heap := by
      intro b u z
      rcases hO b u z with ⟨rfl, _, rfl⟩ | ⟨q, rfl⟩
      · exact ⟨ho, by rw [List.length_map]; exact hl, us, _, vls, ho⟩
      · exact tb2 b q
    -- what is neither a list nor an empty table is not told of
    have free : ∀ {b : Addr} {o : Obj}, st.heap.get? b = some o → (∀ vs n, o.data ≠ .seq vs n) →
        o.data ≠ .fields #[] → H b = none := by
      intro b o e h1 h2
      cases q : H b with
      | none => rfl
      | some u =>
        rcases hO b u q with ⟨rfl, _, _⟩ | ⟨z, _⟩
        · rw [ho] at e
          cases e
          exact absurd rfl (h1 us.toArray _)
        · rw [tb2 b z] at e
          cases e
          exact absurd rfl h2
    have keepN : ∀ {b : Addr} {m : Str → Option Value}, st.heap.Ns b m →
        (hidT st.heap H).Ns b m := by
      rintro b m ⟨o, es, ep, e, d, r⟩
      refine ⟨o, es, ep, hidT_get e (free e (fun vs n z => ?_) fun z => ?_), d, r⟩ <;>
      · rw [d] at z
        cases z
    have inB : K.In (hidT st.heap H) := by
      intro b o e
      refine hidT_get (inK b o e) ?_
      cases q : H b with
      | none => rfl
      | some z =>
        rcases hO b z q with ⟨rfl, n, _⟩ | ⟨y, _⟩
        · rw [n] at e
          cases e
        · obtain ⟨p, hp, rfl⟩ := List.mem_map.mp y
          rw [nk p hp] at e
          cases e
    obtain ⟨mc, n1, n2⟩ := nl
    have md : Mod K mg (hidT st.heap H) := ⟨inB, keepN hg, ⟨mb, keepN hb, bb⟩, mc, keepN n1, n2⟩
    have tB : ∀ p ∈ cs, TabB (hidT st.heap H) mg p.1 p.2 := by
      intro p hp
      obtain ⟨⟨o, vs, fl, tf, gs, tg, iF, tx, tt, e1, r1, r2, r3, rs⟩, e0⟩ := tb p hp
      refine ⟨⟨o, vs, fl, tf, gs, tg, iF, tx, tt, hidT_get e1 (free e1 ?_ ?_), r1, r2, r3, rs⟩, ?_, ?_⟩
      · intro ys n z
        rw [r2] at z
        cases z
      · intro z
        rw [r2] at z
        cases z
        simp at r3
      · obtain ⟨m, ob, b1, b2, b3, b4, b5, b6⟩ := bm
        have g1 : m ≠ mainGlobals := by
          intro q
          obtain ⟨o', es, ep, e', d', _⟩ := hg
          rw [q, e'] at b3
          cases b3
          rw [b6] at d'
          cases d'
        have g2 : m ≠ p.2 := by
          intro q
          rw [q, e0] at b3
          cases b3
          cases b6
        refine ⟨m, ob, b1, b2, g1, g2, hidT_get b3 (free b3 ?_ ?_), b4, b5, b6⟩
        · intro ys n z
          rw [b6] at z
          cases z
        · intro z
          rw [b6] at z
          cases z
      · intro q
        obtain ⟨o', es, ep, e', d', _⟩ := hg
        rw [q, e0] at e'
        cases e'
        cases d'
    have ev : Env0 P w K mg (hidT st.heap H) callerA [] st H :=
      ⟨rfl, md, fun b o e => of_hidT e, Nat.le_of_eq (hidT_size _ _), trivial,
        fun b z => (by simp [frs] at z), hok, .of_eq gn⟩
    refine codeAny_mono ((F _ inB (keepN hg) tB).runG callerA [] st H ⟨[.ref a], []⟩ [.ref a] [.ref a]
      _ _ rfl rm ev (bind st (.ref a)) (.cons rfl .nil) (hsp H hT sq)) fun r s2 z => ?_
    cases r with
    | error e => exact z.elim
    | ok fl =>
      cases fl with
      | next => exact z.elim
      | brk => exact z.elim
      | cont => exact z.elim
      | ret u =>
        obtain ⟨v, H2, os, bare, un, hok2, rv, q⟩ := z
        have qv : v = .bl true := q
        subst qv
        obtain rfl : u = Value.bool true := rv
        have key : ∀ b o, b ∉ cs.map (·.2) → st.heap.get? b = some o → s2.heap.get? b = some o := by
          intro b o nb e
          cases q2 : H b with
          | none => exact un.keep b o e q2 (fun z => by simp [frs] at z) (by simp)
          | some z =>
            rcases hO b z q2 with ⟨rfl, _, rfl⟩ | ⟨y, _⟩
            · obtain ⟨m1, _⟩ := hok b _ q2
              obtain ⟨m2, _⟩ := hok2 b _ (un.frzs b _ _ q2)
              rw [e] at m1
              cases m1
              exact m2
            · exact absurd y nb
        have grown : ∀ p ∈ cs, ∃ more : Array Value,
            s2.heap.get? p.2 = some (PySem.W.tabObj (#[] ++ more)) := by
          intro p hp
          obtain ⟨more, y⟩ := un.tbls p.2 #[] (hT p hp)
          exact ⟨more, hok2 p.2 _ y⟩
        refine ⟨rfl, ⟨fun b o e => ?_, fun b o e => ?_⟩, os, bare⟩
        · by_cases y : b ∈ cs.map (·.2)
          · obtain ⟨p, hp, rfl⟩ := List.mem_map.mp y
            obtain ⟨more, hm⟩ := grown p hp
            rw [(tb p hp).2] at e
            cases e
            exact .inr (.inl ⟨((tb p hp).1.tab (tb p hp).2).isCodeTable, rfl, #[], more, rfl, hm⟩)
          · exact .inl (key b o y e)
        · by_cases y : b ∈ cs.map (·.2)
          · obtain ⟨p, hp, rfl⟩ := List.mem_map.mp y
            obtain ⟨more, hm⟩ := grown p hp
            exact ⟨_, hm⟩
          · exact ⟨o, key b o y e⟩
  have aT : a ∉ cs.map (·.2) := by
    intro q
    have z := (tb2 a q).symm.trans ho
    cases z
  have m2 : ∀ p ∈ cs, p.2 ∈ cs.map (·.2) := fun p hp => List.mem_map_of_mem hp
  cases hk : K.lookup a with
  | some o =>
    have e := inK a o hk
    rw [ho] at e
    cases e
    refine main (fun b => if b ∈ cs.map (·.2) then some (.tbl #[]) else none) (fun p hp => if_pos (m2 p hp))
      (fun b u z => ?_) (.inr ⟨_, us.toArray, _, hk, rfl, rfl, rfl, ?_, ?_⟩)
    · by_cases y : b ∈ cs.map (·.2)
      · exact .inr ⟨y, (Option.some.inj ((if_pos y).symm.trans z)).symm⟩
      · cases (if_neg y).symm.trans z
    · rw [List.size_toArray, len]
      exact hl
    · simpa using vls
  | none =>
    refine main (fun b => if b = a then some (.frz { cls := .type "list", data := .seq us.toArray }
      (.lst (ns.map V.int))) else if b ∈ cs.map (·.2) then some (.tbl #[]) else none) (fun p hp => ?_)
      (fun b u z => ?_) (.inl (.inr ⟨_, if_pos rfl⟩))
    · have n1 : p.2 ≠ a := fun q => aT (q ▸ m2 p hp)
      exact (if_neg n1).trans (if_pos (m2 p hp))
    · by_cases y : b = a
      · exact .inl ⟨y, hk, (Option.some.inj ((if_pos y).symm.trans z)).symm⟩
      · have z1 := (if_neg y).symm.trans z
        by_cases y2 : b ∈ cs.map (·.2)
        · exact .inr ⟨y2, (Option.some.inj ((if_pos y2).symm.trans z1)).symm⟩
        · cases (if_neg y2).symm.trans z1

/-- what is known of a law's promise at the heap that the head leaves -/
def AtG (l : PySem.W.OpenLaw) (w : World) (K : PySem.W.Frag) (mg : Str → Option Value) (k n : Nat)
    (x : Str) (fa : Addr) (ms : List Str) : Prop :=
  ∃ (fd : FuncData) (cs : List (Addr × Addr)) (sp : Sp),
    (∀ p ∈ cs, ∃ m ∈ ms, PySem.W.tabIn K m = some p) ∧ (∀ p ∈ cs, K.lookup p.2 = none) ∧
    (∀ (s : Shared) (u : Value), BindsTo s fd ⟨[u], []⟩ [(x, u)]) ∧
    (∀ (H : Hp) (a : Addr) (ns : List Int), ns.length ≤ n → (∀ p ∈ cs, H p.2 = some (.tbl #[])) →
      SqL K H a (ns.map V.int) → sp [.ref a] H (fun v _ => v = .bl true) fun _ _ _ => False) ∧
    ∀ bs : Heap, K.In bs → bs.Ns mainGlobals mg → (∀ p ∈ cs, TabB bs mg p.1 p.2) →
      FnG l.prog w K mg bs CX0 k fa fd [x] sp
/-- the goal that the head leaves, for a law of whose defs some make lambdas -/
theorem walk_ofGT {l : PySem.W.OpenLaw} {n k : Nat} {q : Program} {loose : List Str}
    {XP : (Str → Option Value) → Heap → Prop} {YP : World → Heap → Prop} {d : DefRec}
    {K : Params → PySem.W.Frag} {x : Str} {ms : List Str} (hn : l.most = some n) (n2 : n ≤ sizeLine)
    (hd : d.params.defaults = []) (rm : Room k callerA)
    (hr : ∀ m ∈ ms, ((recsOf q).find? fun e => e.name == m).isSome = true)
    (hY : ∀ (w : World) (h : Heap), YP w h → (K w.params).In h)
    (F : ∀ (w : World) (mg : Str → Option Value) (fa : Addr) (h : Heap), (K w.params).In h →
      h.Ns mainGlobals mg → mg d.name = some (.ref fa) → AtG l w (K w.params) mg k n x fa ms) :
    PySem.W.WalkO q loose XP YP l.row.toRowW d [] (fun f vs => PySem.call f vs) := by
  refine Att.attach_call hn hd
    fun w s0 s1 mg mb fa o pm cd doc a us ns Gr Y _ _ _ hmg hobj hints hlen gn => ?_
  have inK := hY w _ Y
  obtain ⟨fd, cs, sp, ht, nk, hb, hsp, hF⟩ := F w mg fa _ inK Gr.T.g hmg
  refine law_callGT inK Gr.T.g Gr.T.b Gr.T.builtins Gr.T.nolimit gn (fun p hp => ?_) nk Gr.T.bmain hobj hints
    (Nat.le_trans hlen n2) rm hF hb fun H hT hS => hsp H a ns hlen hT hS
  obtain ⟨m, hm, e⟩ := ht p hp
  obtain ⟨dm, hdm⟩ := Option.isSome_iff_exists.mp (hr m hm)
  exact PySem.W.tab_of Gr.T inK hdm e
end G
set_option maxHeartbeats 2000000
/-! Rules that the hand layer lacks: list.count of bools, list(t) off sys.modules, t[::-1] of a pair, isinstance by a tuple of classes. -/
namespace G
open PySem PySem.Spec PyProof.Rows PySem.W L2
section
variable {X : Cx}
theorem bools_read {h : Heap} : ∀ {bs : List Bool} {us : List Value}, Vals (bs.map V.bl) us → ReadsAll h us (bs.map PyData.bool) []
  | [], us, r => by
    cases r
    exact .nil
  | b :: bs, us, r => by
    cases r with
    | cons r1 r2 =>
      rename_i u us'
      obtain rfl : u = Value.bool b := r1
      exact .cons (.bool b) (bools_read r2)
theorem bools_all (bs : List Bool) : (bs.map PyData.bool).all Shape.bool.has = true := by
  rw [List.all_eq_true]
  intro d hd
  obtain ⟨b, _, rfl⟩ := List.mem_map.mp hd
  rfl
/-- xs.count(b) of a list of bools -/
def rCountB (K : Frag) : V → List V → Hp → VK → Prop := fun x xs H Q => ∃ (a : Addr) (bs : List Bool) (k : Bool),
  x = .ref a ∧ xs = [.bl k] ∧ SqL K H a (bs.map V.bl) ∧ Q (.int (countIn (.bool k) (bs.map PyData.bool))) H
theorem mt_countB : MtR X "list.count" (rCountB X.K) := by
  intro pins s σ H x xs v us Q I rx rs h
  obtain ⟨a, bs, k, rfl, rfl, hl, q⟩ := h
  cases rx
  obtain ⟨u, rfl, ru⟩ := vals1 rs
  obtain rfl : u = Value.bool k := ru
  obtain ⟨its, rv, pl, hz⟩ := I.list hl
  exact count_list_bools pl.isList (bools_read (h := s.heap) rv) (bools_all bs) ⟨.int _, H, I.tok _, ⟨_, rfl⟩, q⟩

/-- list(x) of a list or a tuple, its place not that of sys.modules -/
theorem call_listS : CallR X (.type "list") (fun xs H Q => ∃ (p : Addr) (ys : List V), xs = [.ref p] ∧
    (SqL X.K H p ys ∨ SqT X.K H p ys) ∧ ∀ l, H l = none → l ≠ sysModules → Q (.ref l) (upd H l (.lst ys))) := by
  intro pins s σ H xs us Q I r h
  obtain ⟨p, ys, rfl, hq, q⟩ := h
  obtain ⟨u, rfl, rx⟩ := vals1 r
  cases rx
  have fin : ∀ (its : List Value), Vals ys its → ys.length ≤ sizeLine → ∀ (h' : Heap) (c' : Nat),
      (∀ b o', s.heap.get? b = some o' → h'.get? b = some o') →
      h'.get? s.heap.objs.size = some { cls := .type "list", dict := none, data := .seq its.toArray c', slots := #[] } →
      EP X pins σ Q (.ref s.heap.objs.size) { s with heap := h' } := by
    intro its r' hz h' c' kp e
    refine ⟨.ref s.heap.objs.size, _, I.laid (t' := s.toks) kp (Nat.le_refl _) (o := .lst ys) ?_, rfl,
      q _ (I.hok.fresh (Nat.le_refl _)) (Nat.ne_of_gt I.big)⟩
    exact ⟨hz, its, c', r', e⟩
  rcases hq with hq | hq
  · obtain ⟨its, r', pl, hz⟩ := I.list hq
    have hlen := r'.length
    obtain ⟨o, ho, hc, n, hd⟩ := pl.isList
    refine call_list_seq p (.inl rfl) ho hc hd (fun h' c' kp e => fin its r' hz h' c' kp e) ?_
    simp only [List.size_toArray]
    omega
  · obtain ⟨its, r', pl, hz⟩ := I.tuple hq
    have hlen := r'.length
    obtain ⟨o, ho, hc, n, hd⟩ := pl
    refine call_list_seq p (.inr rfl) ho hc hd (fun h' c' kp e => fin its r' hz h' c' kp e) ?_
    simp only [List.size_toArray]
    omega

theorem applied_rev2 {prog : Program} {w : World} {A : Around} {E : Value → Shared → Prop} {s : Shared} {sl : Addr} {vl vu vs : Value}
    {Q : Int × Int × Nat → Shared → Prop} (hs : s.heap.IsSliceOf sl vl vu vs) (pl : IsPart vl none) (pu : IsPart vu none) (ps : IsPart vs (some (-1)))
    (h : Q (1, -1, 2) s) : wpAny (model prog w) A (Builtin.Slice.sliceApplied (.ref sl) (pure ((2 : Nat) : Int))) Q E s := by
  obtain ⟨o, ho, hc, hd⟩ := id hs
  unfold Builtin.Slice.sliceApplied Builtin.Slice.sliceFields
  refine wpAny_bind (wpAny_bind (wpAny_field ho hd (x := vl) rfl ?_))
  refine wpAny_bind (wpAny_field ho hd (x := vu) rfl ?_)
  refine wpAny_bind (wpAny_field ho hd (x := vs) rfl (wpAny_pure ?_))
  refine wpAny_bind (HT.slicePart_ ps ?_)
  show wpAny _ _ (if ((-1 : Int) == 0) = true then _ else _) _ _ s
  rw [if_neg (by decide)]
  refine wpAny_bind (HT.slicePart_ pl ?_)
  refine wpAny_bind (HT.slicePart_ pu ?_)
  refine wpAny_bind (wpAny_pure ?_)
  exact wpAny_pure h
theorem item_rev2 {prog : Program} {w : World} {A : Around} {E : Value → Shared → Prop} {s : Shared} {t sl : Addr} {a b vl vu vs : Value}
    {Q : Value → Shared → Prop} (ht : IsTup s.heap t #[a, b]) (hs : s.heap.IsSliceOf sl vl vu vs) (pl : IsPart vl none) (pu : IsPart vu none) (ps : IsPart vs (some (-1)))
    (h : Q (.ref s.heap.objs.size) { s with heap := s.heap.push { cls := .type "tuple", data := .seq #[b, a] } }) :
    wpAny (model prog w) A (getItem (.ref t) (.ref sl)) Q E s := by
  have hk : sizeOk (.seq #[b, a]) := by
    show 2 ≤ sizeLine
    decide
  obtain ⟨o, ho, hc, hd⟩ := id hs
  have ty : s.TypeIs (.ref sl) "slice" := ⟨o, ho, hc⟩
  unfold getItem
  try with_reducible refine wpAny_holding ?_
  first
    | refine wpAny_bind (wpAny_pure ?_)
    | skip
  refine wpAny_bind (wpAny_sequenceKey ht.typeIs (by decide) ?_)
  refine wpAny_bind (wpAny_callSpecial?_slot (name := Str.ofString "__getitem__") ht.typeIs
    PyProof.Rows.slot_tuple_getitem (wpAny_call_entry PyProof.Rows.slot_tuple_getitem ht.typeIs
      PyProof.Rows.entry_tuple_getitem ?_ (PyProof.Rows.args_tuple_getitem _ _)))
  show wpAny _ _ (Builtin.Tuple.tupleItemsOf (.ref t) >>= _) _ _ s
  refine wpAny_bind (tupleItemsOf_ ht ?_)
  refine wpAny_bind (wpAny_typeOf ty ?_)
  rw [if_pos (by decide)]
  refine wpAny_bind (applied_rev2 hs pl pu ps ?_)
  show wpAny _ _ (if ((1 : Int) == 0 && (-1 : Int) == 1 && (2 : Nat) == 2) = true then _ else _) _ _ s
  rw [if_neg (by decide)]
  first
    | exact wpAny_bind (m := Builtin.Tuple.tupleExact _) (wpAny_newObj_type (wpAny_pure ⟨_, rfl, wpAny_pure h⟩) hk)
    | exact wpAny_bind (wpAny_bind (m := Builtin.Tuple.tupleExact _) (wpAny_newObj_type (wpAny_pure ⟨_, rfl, wpAny_pure h⟩) hk))
    | exact wpAny_bind (wpAny_bind (m := Builtin.Tuple.tupleExact _) (wpAny_newObj_type (wpAny_pure (wpAny_pure ⟨_, rfl, wpAny_pure h⟩)) hk))
/-- t[::-1] of a pair -/
def tRev2 (K : Frag) (te : TE) : TE := fun σ H Q => te σ H fun x H1 => ∃ (a : Addr) (y z : V), x = .ref a ∧ SqT K H1 a [y, z] ∧
  ∀ p, H1 p = none → Q (.ref p) (upd H1 p (.tup [z, y]))
theorem pe_rev2 {e : Expr} {te : TE} {k : Nat} {p1 p2 p3 pos : Pos} (he : PE X e te) :
    PE X (.Subscript e (.Slice none none (some (.UnaryOp .USub (.Constant (.int 1) k p1) p2)) p3) pos) (tRev2 X.K te) := by
  refine ⟨fun pins s σ H Q I h => ?_⟩
  refine Subscript_ (thn (he.run pins s σ H _ I h) fun v s1 ⟨x, H1, I1, r1, q1⟩ => ?_)
  obtain ⟨a, y, z, ex, hx, q⟩ := q1
  subst ex
  cases r1
  have stp : PO X (some (.UnaryOp .USub (.Constant (.int 1) k p1) p2)) (tPart (tUn (rU fun i => .int (-i)) (tC (.int 1)))) :=
    po_some (pe_un un_neg pe_int)
  refine wpAny_Slice (thn (po_none.run pins s1 σ H1 (fun o J => o = none ∧ J = H1) I1 ⟨rfl, rfl⟩)
    fun vl s2 ⟨l, H2, I2, pl, el, e2⟩ => ?_)
  subst el e2
  refine thn (po_none.run pins s2 σ H2 (fun o J => o = none ∧ J = H2) I2 ⟨rfl, rfl⟩)
    fun vu s3 ⟨u, H3, I3, pu, eu, e3⟩ => ?_
  subst eu e3
  refine thn (stp.run pins s3 σ H3 (fun o J => o = some (-1) ∧ J = H3) I3 ⟨1, rfl, -1, rfl, rfl, rfl⟩)
    fun vs s4 ⟨o, H4, I4, ps, eo, e4⟩ => ?_
  subst eo e4
  have I5 : Inv X pins σ H4 { s4 with heap := s4.heap.push { cls := .type "slice", data := .fields #[vl, vu, vs] } } :=
    I4.kept (t' := s4.toks) fun b ob q => Heap.get?_push_of_some _ q
  obtain ⟨its, r, ht, hz⟩ := I5.tuple hx
  obtain ⟨uy, uz, rfl, ry, rz⟩ := vals2 r
  show wpAny (model X.prog X.w) X.A (subscriptTail e (.Slice none none (some (.UnaryOp .USub (.Constant (.int 1) k p1) p2)) p3)
    (.ref a) (.ref s4.heap.objs.size)) (EP X pins σ Q) X.xe
    { s4 with heap := s4.heap.push { cls := .type "slice", data := .fields #[vl, vu, vs] } }
  refine tail_any (ops := [.ref a, .ref s4.heap.objs.size]) ht.typeIs PyProof.Rows.slot_tuple_getitem.lookup ?_ (by with_unfolding_all rfl)
  refine item_rev2 ht (Heap.IsSliceOf.new _ vl vu vs) pl pu ps ?_
  refine ⟨.ref _, _, I5.laid (t' := s4.toks) (o := .tup [z, y]) (fun b ob q => Heap.get?_push_of_some _ q) (Nat.le_refl _) ?_, rfl,
    q _ (I5.hok.fresh (Nat.le_refl _))⟩
  exact ⟨by show 2 ≤ sizeLine; decide, _, .cons rz (.cons ry .nil), IsTup.new _ _⟩

/-- isinstance(e, (C, D, ..)), e the error that the suite holds -/
theorem call_isXT {a : Addr} {oe : Obj} {cls : Value} {d : Option Addr} {pn : List (Addr × Obj)} (hz : Zc cls d oe) (hf : ∃ vs, oe.data = .fields vs) :
    CallR (X.suite a ((a, oe) :: pn)) (.builtin "isinstance") (fun xs H Q => ∃ (D dd tp : Addr) (cs : List V) (cv : List Value) (b : Bool),
      cls = .ref D ∧ d = some dd ∧ ExcC X.K D ∧ (∃ fs, H dd = some (.xd fs)) ∧ xs = [.ref a, .ref tp] ∧ SqT X.K H tp cs ∧
      (∀ us, Vals cs us → us = cv) ∧ kitAny X.K (.ref D) cv = some b ∧ Q (.bl b) H) := by
  intro pins s σ H xs us Q I r h
  obtain ⟨D, dd, tp, cs, cv, b, rfl, rfl, C, ⟨fs, hx⟩, rfl, ht, hc, e, q⟩ := h
  obtain ⟨u1, u2, rfl, r1, r2⟩ := vals2 r
  obtain rfl : u1 = Value.ref a := r1
  obtain rfl : u2 = Value.ref tp := r2
  obtain ⟨hget, _⟩ := I.pin (a, oe) (List.mem_append.mpr (.inl List.mem_cons_self))
  obtain ⟨vs, hv⟩ := hf
  obtain ⟨mA, ⟨od, es, ep, hod, _⟩, _⟩ := (show ObjOk X.prog X.w H s.heap dd (.xd fs) from I.hok dd _ hx)
  obtain ⟨its, rv, tt, _⟩ := I.tuple ht
  have ei := hc its rv
  subst ei
  obtain ⟨⟨c0, d0, dt, sl⟩, h1, h2, n, h3⟩ := tt
  simp only at h2 h3
  subst h2 h3
  have J : InstAt s.heap a oe D (some od) := by
    obtain ⟨oc, odi, oda, osl⟩ := oe
    obtain ⟨h1, h2⟩ := hz
    dsimp only at h1 h2 hv
    subst h1 h2 hv
    exact ⟨hget, rfl, rfl, hod⟩
  exact kia_tup (kit_exc C) I.kIn J h1 e (fun z => nomatch z)
    fun tk => ⟨.bl b, H, I.kept (t' := tk) fun _ _ z => z, rfl, q⟩
end
end G
set_option maxHeartbeats 2000000
/-! A lambda called in a try by the def that got it: what it raises is taken at the slots of that very moment. -/
namespace G
open PySem PySem.Spec PyProof.Rows L2 LamX
section
variable {X : Cx} {pins : List (Addr × Obj)} {σ : L2.St} {H : Hp} {s : Shared}
theorem pe_actS {CXg : CXT} {Eg : XK} {Ng : List Str} {qg : Str} {sg : Scope} {g f c' : Addr} {cdg pm ctv : Value}
    {params : Arguments} {body : Expr} {scope : Scope} {k i : Nat} {a : Str} {pn : List (Addr × Obj)}
    {xe : Value → Shared → Prop} {W : WX} {tb : XK → TE} {p1 p2 : Pos}
    (I : Inv X pins σ H s) (L : LamS X.env.scope scope)
    (hf : s.heap.get? f = some (PySem.W.kla_obj "<lambda>" (X.env.qual ++ "<lambda>") params body scope
      (cloFrom X.env.cells scope.names []) pm c' ctv))
    (hn : H f = none) (hfr : f ∉ frs X.stack)
    (hbind : bindArgs (PySem.W.kla_fn "<lambda>" (X.env.qual ++ "<lambda>") params body scope
      (cloFrom X.env.cells scope.names []) pm (.ref c') ctv) ⟨[], []⟩ = pure [])
    (tk : Takes ((cxOf CXg X.prog X.w X.K X.mg X.base Ng qg sg g cdg X.A X.stack s H Eg).tr pn xe) W)
    (hr : Room (k + 1) (X.A.deeper (envOfC qg sg s.heap.objs.size g cdg)))
    (hbody : ∀ (E : XK) (A : Around) (ou : List Env) (s : Shared) (H : Hp), A.guards = X.A.guards →
      Room k (A.deeper (lamEnv X scope s.heap.objs.size f c')) → PE (lamCx X A ou s H E scope f c') body (tb E))
    (hN : Ng[i]? = some a) (hv : Vis sg a) (hd : (a == ("__debug__" : Str)) = false)
    (hcd : (a == ("__classdict__" : Str)) = false) :
    PE ((cxOf CXg X.prog X.w X.K X.mg X.base Ng qg sg g cdg X.A X.stack s H Eg).tr pn xe)
      (.Call (.Name a p1) [] [] p2)
      (fun σz Hz Q => σz[i]? = some (some (.ref f)) ∧ Hz c' = some (CodeO c' (X.env.qual ++ "<lambda>")) ∧
        tb (WE W σz) σ Hz Q) := by
  refine ⟨fun pz sz σz Hz Q Iz h => ?_⟩
  obtain ⟨h0, hc, ht⟩ := h
  have rd := (pe_var (pos := p1) (i := i) hN hv hd hcd).run pz sz σz Hz
    (fun v J => v = .ref f ∧ J = Hz) Iz ⟨.ref f, h0, rfl, rfl⟩
  refine wpAny_Call_Name_kw (thn rd fun u s1 ⟨v, J, I1, r1, ev, eJ⟩ => ?_)
  subst ev eJ
  obtain rfl : u = Value.ref f := r1
  have un : Un (frs X.stack) [] H J s.heap s1.heap := I1.base
  have at1 := I1.base.keep f _ hf hn hfr (fun z => nomatch (show f ∈ ([] : List Addr) from z))
  refine PySem.W.callWith_F0 ⟨_, _, _, _, at1⟩ ?_
  obtain ⟨⟨oc, vs, t, o1, o2, o3⟩, _, _⟩ := I1.hok c' _ hc
  have run : codeAny (model X.prog X.w) (X.A.deeper (envOfC qg sg s.heap.objs.size g cdg)) (.call (.ref f) ⟨[], []⟩)
      (CR (L2.CX X.prog X.w) (envOfC qg sg s.heap.objs.size g cdg :: X.stack) X.prog X.w J s1 Q (WE W σz)) s1 := by
    refine PySem.W.kla_callFunE hr.depth at1 rfl L.co L.gen rfl ⟨c', oc, vs, t, rfl, o1, o2, o3⟩ ?_
    rw [hbind]
    refine wpAny_pure (wpAny_newFunctionEnv (fun y hy => (L.own y hy).2)
      (fun y hy => absurd hy (by simp)) (fun h1 ns sb => ⟨I1.nolimit.fresh _ sb, ?_⟩) L.kind)
    show codeAny _ _ (.expr body (lamEnv X scope s1.heap.objs.size f c')) _ _
    have kp : ∀ b o, s1.heap.get? b = some o → h1.get? b = some o := by
      intro b o e
      exact sb.extBut b o (Nat.ne_of_lt (Heap.lt_size e)) (Heap.get?_push_of_some _ e)
    have J2 := lam_start2 (A := X.A.deeper (envOfC qg sg s.heap.objs.size g cdg)) (E := WE W σz) (f := f) (c' := c')
      (tk := s1.toks + ([] : List (Str × Value)).length) I L I1.env0 hr.hd un ns kp
    refine PySem.W.kla_codeExpr (wpAny_mono ((hbody (WE W σz) (X.A.deeper (envOfC qg sg s.heap.objs.size g cdg)) _ s1 J rfl (hr.deeper _)).run [] _ _ J Q J2 ht)
      (fun v s' hq => ?_) fun e s' hq => hq)
    obtain ⟨w', H', J', rv, q⟩ := hq
    exact ⟨w', H', J'.os, J'.bare, J'.base, J'.hok, rv, q⟩
  refine wpAny_call (codeAny_mono run fun r s' hq => ?_)
  cases r with
  | error e => exact passAt tk σz pz J s1 e s' I1 hq
  | ok fl =>
    cases fl with
    | ret u => exact I1.after hq
    | next => exact hq.elim
    | brk => exact hq.elim
    | cont => exact hq.elim
end
/-- the def that calls what it got, told of the slots at that moment -/
def GivesS (X : Cx) (Ng : List Str) (x : Str) (sg : Scope) (g : Addr) (cdg : Value) (bg : List Stmt) (a : Str) (q : Str)
    (TT : (XK → Hp → VK → Prop) → Hp → VK → Prop) : Prop :=
  ∀ (f c' : Addr) (s : Shared) (H : Hp) (Q : VK) (tl : XK → Hp → VK → Prop),
    (∀ (W : WX) (pn : List (Addr × Obj)) (xe : Value → Shared → Prop) (p1 p2 : Pos),
      Takes ((cxOf CX0 X.prog X.w X.K X.mg X.base Ng x sg g cdg X.A X.stack s H E0).tr pn xe) W →
      PE ((cxOf CX0 X.prog X.w X.K X.mg X.base Ng x sg g cdg X.A X.stack s H E0).tr pn xe)
        (.Call (.Name a p1) [] [] p2)
        (fun σz Hz Q => σz[0]? = some (some (.ref f)) ∧ Hz c' = some (CodeO c' q) ∧ tl (WE W σz) Hz Q)) →
    H c' = some (CodeO c' q) → TT tl H Q →
    ∃ t, PSs (cxOf CX0 X.prog X.w X.K X.mg X.base Ng x sg g cdg X.A X.stack s H E0).nox bg t ∧
      t { nx := fun _ H' => Q .non H', rt := Q } (L2.start Ng [.ref f]) H
section
variable {X : Cx}
/-- x(lambda: body) -/
theorem pe_lamS {T : List (Addr × Str)} {TT : (XK → Hp → VK → Prop) → Hp → VK → Prop} {x a : Str} {g c P : Addr} {k : Nat}
    {pg : Arguments} {bg : List Stmt} {sg : Scope} {dV kV doc pm cdv ct oc : Value} {an od : Option Addr}
    {osl : Array (Option Value)} {Ng : List Str} {params : Arguments} {body : Expr} {scope : Scope} {t : XK → TE}
    {p lpos pos : Pos} (hg : Gl X x) (hm : X.mg x = some (.ref g)) (hk : PySem.W.keepIn X.K (.ref g) = true)
    (lk : X.K.lookup g = some ⟨oc, od, .func (PySem.W.fnOf x x pg bg sg dV kV doc pm an cdv ct), osl⟩)
    (hcg : PySem.W.codeIn X.K cdv x = true)
    (hb : L2.Binds X.K (PySem.W.fnOf x x pg bg sg dV kV doc pm an cdv ct) [a] []) (Sg : FnScope Ng [a] sg)
    (hNg : Ng[0]? = some a) (hva : Vis sg a)
    (hG : GivesS X Ng x sg g cdv bg a (X.env.qual ++ "<lambda>") TT)
    (TB : TabB X.base X.mg c P) (hcode : X.env.code = .ref c) (hmT : (P, X.env.qual ++ "<lambda>") ∈ T)
    (hu : ∀ p ∈ T, p.1 = P → p.2 = X.env.qual ++ "<lambda>") (hr : Room (k + 2) X.A)
    (L : LamS X.env.scope scope) (hdef : defaultsOf params X.env = ([], []))
    (hbind : ∀ (q : Str) (cl : List (Str × Addr)) (pm cv ctv : Value),
      bindArgs (PySem.W.kla_fn "<lambda>" q params body scope cl pm cv ctv) ⟨[], []⟩ = pure [])
    (hbody : ∀ (A : Around) (ou : List Env) (s : Shared) (H : Hp) (E : XK) (f c' : Addr), A.guards = X.A.guards →
      Room k (A.deeper (lamEnv X scope s.heap.objs.size f c')) → PE (lamCx X A ou s H E scope f c') body (t E))
    (n1 : (x == ("__debug__" : Str)) = false := by decide) (n2 : (a == ("__debug__" : Str)) = false := by decide)
    (n3 : (a == ("__classdict__" : Str)) = false := by decide) :
    PE X (.Call (.Name x p) [.Lambda params body scope lpos] [] pos) (tLam T TT t) := by
  refine ⟨fun pins s σ H Q I h => ?_⟩
  obtain ⟨hT, h⟩ := h
  refine wpAny_Call_Name_kw (ld_glob I hg hm ?_ n1)
  refine PySem.W.callWith_K (h₀ := X.base) I.ok.mod.kin hk ?_ (by rfl) (by rfl)
  show wpAny _ _ (spliced ((false, eval (.Lambda params body scope lpos) X.env) ::
    backTo pos (starEach [] X.env))) _ _ s
  refine Calls.spliced_cons (lam_make2 I TB hcode hmT hu hT hdef (L.has I.ok) ?_)
  intro f c' pm' ctv H1 s' I1 eN T1 hf hfn hfr hco
  refine Calls.spliced_nil ⟨I1.kIn, ?_⟩
  have run : codeAny (model X.prog X.w) X.A (.call (.ref g) ⟨[.ref f], []⟩)
      (CR CX0 X.stack X.prog X.w H1 s' Q E0) s' := by
    refine run_ofS (N := Ng) (ps := [a]) (us := [.ref f]) (vs := [.ref f]) lk hcg Sg hr I1.env0
      (hb s' [.ref f] I1.kIn rfl) (.cons rfl .nil) rfl fun hr' => ?_
    obtain ⟨t', ht', hq'⟩ := hG f c' s' H1 Q (fun E H' Q' => t E σ H' Q') (fun W pn xe p1 p2 tk =>
      pe_actS (i := 0) I1 L hf hfn hfr (hbind _ _ _ _ _) tk hr'
        (fun E A ou s H gA hr2 => hbody A ou s H E f c' gA hr2) hNg hva n2 n3) hco (h H1 eN T1)
    exact ⟨t', ht'.nox, hq'⟩
  refine wpAny_call (codeAny_mono run fun r s2 hq => ?_)
  cases r with
  | error e => exact (show False from hq).elim
  | ok fl =>
    cases fl with
    | ret u => exact I1.after hq
    | next => exact hq.elim
    | brk => exact hq.elim
    | cont => exact hq.elim
end
end G
/-! Statements in a row, joined by an own invariant. -/
namespace G
open PySem PySem.Spec PyProof.Rows L2
/-- st, then the rest: I is what holds in between -/
def tCut (t u : TS) : TS := fun D σ H => ∃ I : L2.St → Hp → Prop, (∀ σ J, I σ J → u D σ J) ∧ t { D with nx := I } σ H
theorem pss_cut {X : Cx} {st : Stmt} {rest : List Stmt} {t u : TS} (h1 : PS X st t) (h2 : PSs X rest u) :
    PSs X (st :: rest) (tCut t u) := by
  refine ⟨fun pins s σ H D J h => ?_⟩
  obtain ⟨I, go, h⟩ := h
  refine wpAny_execs_cons (thn (h1.run pins s σ H { D with nx := I } J h) fun fl s1 q => ?_)
  cases fl with
  | ret v => exact q
  | brk => exact q
  | cont => exact q
  | next =>
    obtain ⟨σ2, H2, J2, i2⟩ := q
    exact h2.run pins s1 σ2 H2 D J2 (go σ2 H2 i2)
end G
namespace N4
open PySem L2 G
abbrev Wn := Int × Option Int
abbrev DIG : Str := "0123456789"
abbrev DOT : Str := ".."
def dig (c : Nat) : Bool := decide (c ∈ DIG.cps.toList)
theorem digL : DIG.cps.toList = [48, 49, 50, 51, 52, 53, 54, 55, 56, 57] := by decide +kernel
theorem dig_iff (c : Nat) : dig c = true ↔ 48 ≤ c ∧ c ≤ 57 := by
  unfold dig
  rw [decide_eq_true_eq, digL]
  simp only [List.mem_cons, List.not_mem_nil, or_false]
  omega
def hd0 (z : Str) : Bool := decide (z.cps.toList.head? = some 48)
/-- a number as it is written -/
def canon (z : Str) : Bool := !decide (z = "") && (z.cps.toList.all dig && (decide (z = "0") || !hd0 z))
def val (z : Str) : Int := (NumText.digitsVal z.cps.toList : Nat)
theorem val_nn (z : Str) : 0 ≤ val z := by unfold val; omega
theorem empL : ("" : Str).cps.toList = [] := by decide +kernel
theorem zeroL : ("0" : Str).cps.toList = [48] := by decide +kernel
theorem dotL : DOT.cps.toList = [46, 46] := by decide +kernel
theorem dotLen : DOT.length = 2 := by decide +kernel
theorem canon_parts {z : Str} (h : canon z = true) : NumText.AllDigits z.cps.toList ∧ z.cps.toList ≠ [] ∧ (z = "0" ∨ hd0 z = false) := by
  unfold canon at h
  simp only [Bool.and_eq_true, Bool.or_eq_true, Bool.not_eq_true', decide_eq_true_eq, decide_eq_false_iff_not] at h
  obtain ⟨h1, h2, h3⟩ := h
  refine ⟨fun c hc => ?_, fun e => h1 (TL.ext_tl (by rw [show TL.tl z = [] from e]; exact empL.symm)), h3⟩
  have := List.all_eq_true.mp h2 c hc
  exact (dig_iff c).mp this
theorem canon_int {z : Str} (h : canon z = true) (hl : z.length ≤ 640) : intText? z = some (val z) := by
  obtain ⟨h1, h2, _⟩ := canon_parts h
  exact PySem.intText_digits h1 h2 (Nat.le_trans hl (by decide))
theorem numL_val' {cs : List Nat} (h : NumText.AllDigits cs) (h2 : cs ≠ []) (h3 : cs.length = 1 ∨ ∃ c r, cs = c :: r ∧ 49 ≤ c) : TL.numL (NumText.digitsVal cs) = cs := by
  unfold TL.numL
  obtain ⟨n, hn⟩ : ∃ n, cs.length = n + 1 := by
    cases cs with
    | nil => exact absurd rfl h2
    | cons c r => exact ⟨r.length, rfl⟩
  rw [NumText.toDigits_digitsVal n cs hn h (h3.elim (fun e => .inl (by omega)) .inr), List.map_map]
  have e : cs.map (Char.toNat ∘ Char.ofNat) = cs.map id := by
    apply List.map_congr_left
    intro c hc
    have r := h c hc
    have : ∀ d : Nat, d < 58 → (Char.ofNat d).toNat = d := by decide
    exact this c (by omega)
  rw [e, List.map_id]
theorem canon_str {z : Str} (h : canon z = true) : (Str.ofString (toString (val z)) : Str) = z := by
  obtain ⟨h1, h2, h3⟩ := canon_parts h
  apply TL.ext_tl
  unfold val
  rw [TL.tl_num]
  refine numL_val' h1 h2 ?_
  rcases h3 with rfl | h3
  · left
    rw [zeroL]
    rfl
  · cases e : z.cps.toList with
    | nil => exact absurd e h2
    | cons c r =>
      right
      refine ⟨c, r, rfl, ?_⟩
      have r1 := h1 c (by rw [e]; simp)
      unfold hd0 at h3
      rw [e] at h3
      have : ¬ c = 48 := by simpa using h3
      omega
theorem numL_head : ∀ n : Nat, 0 < n → ∃ c r, TL.numL n = c :: r ∧ 49 ≤ c := by
  intro n
  induction n using Nat.strongRecOn with
  | _ n ih =>
    intro hn
    by_cases h : n < 10
    · exact ⟨48 + n, [], TL.numL_lt h, by omega⟩
    · obtain ⟨c, r, e, hc⟩ := ih (n / 10) (by omega) (by omega)
      exact ⟨c, r ++ [48 + n % 10], by rw [TL.numL_step (by omega), e]; rfl, hc⟩
theorem canon_num (n : Nat) : canon (Str.ofString (toString (n : Int))) = true := by
  have e := TL.tl_num n
  unfold canon
  have e1 : ¬ (Str.ofString (toString (n : Int)) = ("" : Str)) := by
    intro z
    have := congrArg TL.tl z
    rw [e] at this
    exact TL.numL_ne n (this.trans empL)
  have e2 : (Str.ofString (toString (n : Int))).cps.toList.all dig = true := by
    rw [show (Str.ofString (toString (n : Int))).cps.toList = TL.numL n from e]
    exact List.all_eq_true.mpr fun c hc => (dig_iff c).mpr (TL.numL_digits n c hc)
  rw [decide_eq_false e1, e2]
  simp only [Bool.not_false, Bool.true_and, Bool.or_eq_true, decide_eq_true_eq, Bool.not_eq_true']
  by_cases h0 : n = 0
  · left
    subst h0
    decide +kernel
  · right
    obtain ⟨c, r, e3, hc⟩ := numL_head n (by omega)
    unfold hd0
    rw [show (Str.ofString (toString (n : Int))).cps.toList = TL.numL n from e, e3]
    simp
    omega
theorem val_num (n : Nat) : val (Str.ofString (toString (n : Int))) = n := by
  unfold val
  rw [show (Str.ofString (toString (n : Int))).cps.toList = TL.numL n from TL.tl_num n, TL.numL_val]
/-- the text of an int -/
def tx (i : Int) : Str := Str.ofString (toString i)
theorem canon_tx {i : Int} (h : 0 ≤ i) : canon (tx i) = true := by
  have e : i = ((i.toNat : Nat) : Int) := by omega
  unfold tx
  rw [e]
  exact canon_num _
theorem val_tx {i : Int} (h : 0 ≤ i) : val (tx i) = i := by
  have e : i = ((i.toNat : Nat) : Int) := by omega
  unfold tx
  rw [e]
  exact val_num _
theorem tx_val {z : Str} (h : canon z = true) : tx (val z) = z := canon_str h
theorem fold_lt : ∀ (cs : List Nat) (acc : Nat), NumText.AllDigits cs → cs.foldl (fun acc c => acc * 10 + (c - 48)) acc < (acc + 1) * 10 ^ cs.length
  | [], acc, _ => by simp
  | c :: r, acc, h => by
    have hc := h c (by simp)
    have ih := fold_lt r (acc * 10 + (c - 48)) fun x hx => h x (by simp [hx])
    rw [List.foldl_cons, List.length_cons, Nat.pow_succ]
    refine Nat.lt_of_lt_of_le ih ?_
    have e : (acc + 1) * (10 ^ r.length * 10) = ((acc + 1) * 10) * 10 ^ r.length := by
      rw [Nat.mul_comm (10 ^ r.length) 10, Nat.mul_assoc]
    rw [e]
    exact Nat.mul_le_mul_right _ (by omega)
theorem val_lt {z : Str} (h : canon z = true) {n : Nat} (hl : z.length ≤ n) : (val z).natAbs < 10 ^ n := by
  have q := fold_lt z.cps.toList 0 (canon_parts h).1
  have e : z.cps.toList.length = z.length := by simp [Str.length]
  rw [e, Nat.zero_add, Nat.one_mul] at q
  unfold val
  have : (NumText.digitsVal z.cps.toList) < 10 ^ z.length := q
  exact Nat.lt_of_lt_of_le (by simpa using this) (Nat.pow_le_pow_right (by decide) hl)
theorem tx_len {i : Int} (h0 : 0 ≤ i) (h : i.natAbs < 10 ^ 130) : (tx i).length ≤ 130 := by
  have e : i = ((i.toNat : Nat) : Int) := by omega
  unfold tx
  rw [e, TL.len_tl, TL.tl_num]
  exact TL.numL_len (by decide) (by omega)
theorem tx_free {i : Int} (h : 0 ≤ i) : 46 ∉ TL.tl (tx i) := by
  have e : i = ((i.toNat : Nat) : Int) := by omega
  unfold tx
  rw [e, TL.tl_num]
  exact TL.numL_free (.inl (by decide))

def pB (z : Str) : Str := (Txt.partition z DOT).1
def pS (z : Str) : Str := (Txt.partition z DOT).2.1
def pA (z : Str) : Str := (Txt.partition z DOT).2.2
/-- what a text is read as -/
def readW (z : Str) : Option Wn :=
  if pS z = "" ∨ canon (pB z) = false then none
  else if pA z = "" then some (val (pB z), none)
  else if canon (pA z) = false ∨ val (pA z) < val (pB z) then none
  else some (val (pB z), some (val (pA z)))
def hT : Option Int → Str
  | none => ""
  | some x => tx x
def fmtW (w : Wn) : Str := tx w.1 ++ DOT ++ hT w.2
theorem app_nil (z : Str) : z ++ ("" : Str) = z := TL.ext_tl (by rw [TL.tl_append, show TL.tl ("" : Str) = [] from empL, List.append_nil])
theorem nil_app (z : Str) : (Str.empty : Str) ++ z = z := TL.ext_tl (by rw [TL.tl_append]; rfl)
theorem tx_ne {i : Int} (h : 0 ≤ i) : tx i ≠ "" := by
  intro e
  have c := (canon_parts (canon_tx h)).2.1
  rw [e] at c
  exact c empL
theorem part_fmt {w : Wn} (h0 : 0 ≤ w.1) : Txt.partition (fmtW w) DOT = (tx w.1, DOT, hT w.2) :=
  TL.partition_app (s := 46) (S := [46]) dotL (tx_free h0)
theorem dot_ne : ¬ (DOT = ("" : Str)) := by decide +kernel
theorem read_fmt {w : Wn} (h0 : 0 ≤ w.1) (h1 : ∀ x, w.2 = some x → w.1 ≤ x) : readW (fmtW w) = some w := by
  unfold readW pS pB pA
  rw [part_fmt h0]
  simp only [canon_tx h0, dot_ne, false_or, Bool.true_eq_false, if_false, val_tx h0]
  obtain ⟨l, o⟩ := w
  cases o with
  | none => simp [hT]
  | some x =>
    have hx : 0 ≤ x := Int.le_trans h0 (h1 x rfl)
    have e1 : ¬ (tx x = "") := tx_ne hx
    have e2 : ¬ x < l := by have : l ≤ x := h1 x rfl; omega
    show (if tx x = "" then _ else if canon (tx x) = false ∨ val (tx x) < l then none else some (l, some (val (tx x)))) = _
    rw [if_neg e1, canon_tx hx, val_tx hx]
    simp [e2]
/-- the text is cut at the first two dots -/
theorem part_cases (z : Str) : (Txt.find z DOT = -1 ∧ pS z = "" ∧ pB z = z) ∨
    ∃ i : Nat, Txt.find z DOT = (i : Int) ∧ pS z = DOT ∧ pB z = cutS z none (some (i : Int)) ∧ pA z = cutS z (some ((i : Int) + 2)) none ∧ z = pB z ++ DOT ++ pA z := by
  rcases PyProof.Rows.partition_whole z DOT with ⟨e, hn⟩ | ⟨i, e, hi, hn⟩
  · left
    rcases PyProof.Rows.find_whole z DOT with ⟨f, _⟩ | ⟨j, _, hj, _⟩
    · exact ⟨f, by unfold pS; rw [e]; rfl, by unfold pB; rw [e]⟩
    · exact absurd hj (hn j)
  · right
    rcases PyProof.Rows.find_whole z DOT with ⟨_, hf⟩ | ⟨j, f, hj, hjn⟩
    · exact absurd hi (hf i)
    · have ij : i = j := by
        by_cases h1 : i < j
        · exact absurd hi (hjn i h1)
        · by_cases h2 : j < i
          · exact absurd hj (hn j h2)
          · omega
      subst ij
      have hb : i + 2 ≤ z.length := by have := hi.1; rw [dotLen] at this; exact this
      have lz := TL.len_tl z
      refine ⟨i, f, by unfold pS; rw [e], ?_, ?_, ?_⟩
      · unfold pB
        rw [e]
        apply TL.ext_tl
        rw [TL.tl_strSub]
        show _ = (List.toArray _).toList
        rw [HT.sIx_none, HT.sIx_nat]
        simp only [List.drop_zero, Nat.sub_zero]
        rw [show min i z.length = i by omega]
      · unfold pA
        rw [e, dotLen]
        apply TL.ext_tl
        rw [TL.tl_strSub_end]
        show _ = (List.toArray _).toList
        rw [HT.sIx_none, show ((i : Int) + 2) = ((i + 2 : Nat) : Int) by omega, HT.sIx_nat, show min (i + 2) z.length = i + 2 by omega]
        rw [List.take_of_length_le (by rw [List.length_drop, lz]; exact Nat.le_refl _)]
      · have q := StrLaws.sub_cat z DOT (a := 0) (Nat.zero_le i) hi
        unfold pB pA
        rw [e]
        show z = Builtin.Str.strSub z 0 i ++ DOT ++ Builtin.Str.strSub z (i + DOT.length) z.length
        rw [q]
        apply TL.ext_tl
        rw [TL.tl_strSub_end]
        rfl
theorem fmt_read {z : Str} {w : Wn} (h : readW z = some w) : fmtW w = z ∧ 0 ≤ w.1 ∧ ∀ x, w.2 = some x → w.1 ≤ x := by
  unfold readW at h
  by_cases c1 : pS z = "" ∨ canon (pB z) = false
  · rw [if_pos c1] at h
    cases h
  · rw [if_neg c1] at h
    have c2 : canon (pB z) = true := by
      cases q : canon (pB z) with
      | true => rfl
      | false => exact absurd (.inr q) c1
    rcases part_cases z with ⟨_, e, _⟩ | ⟨i, _, _, _, _, ez⟩
    · exact absurd (.inl e) c1
    · by_cases c3 : pA z = ""
      · rw [if_pos c3] at h
        cases h
        refine ⟨?_, val_nn _, fun x e => by cases e⟩
        unfold fmtW
        show tx (val (pB z)) ++ DOT ++ "" = z
        rw [tx_val c2]
        rw [c3] at ez
        exact ez.symm
      · rw [if_neg c3] at h
        by_cases c4 : canon (pA z) = false ∨ val (pA z) < val (pB z)
        · rw [if_pos c4] at h
          cases h
        · rw [if_neg c4] at h
          cases h
          have c5 : canon (pA z) = true := by
            cases q : canon (pA z) with
            | true => rfl
            | false => exact absurd (.inl q) c4
          refine ⟨?_, val_nn _, fun x e => ?_⟩
          · unfold fmtW
            show tx (val (pB z)) ++ DOT ++ tx (val (pA z)) = z
            rw [tx_val c2, tx_val c5]
            exact ez.symm
          · cases e
            show val (pB z) ≤ val (pA z)
            have : ¬ val (pA z) < val (pB z) := fun q => c4 (.inr q)
            omega
end N4
/-! Data that can be shown, and whose shown text can be shown again; data off the place of the drawn numbers. -/
namespace G
open PySem PySem.Spec PyProof.Rows L2 LamX
theorem hide_new {r p : Addr} {J : Hp} {o : HO} (h : J p = none) : Same (hide r J) (hide r (upd J p o)) := by
  intro b u e
  unfold hide at e ⊢
  split
  · rename_i z
    rw [if_pos z] at e
    cases e
  · rename_i z
    rw [if_neg z] at e
    rw [upd_ne (ne_of_none e h)]
    exact e
theorem hide_ext {r : Addr} {J J' : Hp} (h : Ext r J J') : Same (hide r J) (hide r J') := by
  intro b u e
  unfold hide at e ⊢
  split
  · rename_i z
    rw [if_pos z] at e
    cases e
  · rename_i z
    rw [if_neg z] at e
    exact h b u z e
theorem hide_extN {r : Addr} {J J' : Hp} (h : ExtN J J') : ExtN (hide r J) (hide r J') := by
  intro b u e m
  unfold hide at e ⊢
  split
  · rename_i z
    rw [if_pos z] at e
    cases e
  · rename_i z
    rw [if_neg z] at e
    exact h b u e m
theorem hide_to {r : Addr} {J J' : Hp} (h : Same J J') : Same (hide r J) (hide r J') := hide_ext (Ext.of h)
/-- a new object off r -/
theorem stp {r p : Addr} {J : Hp} {o : HO} (R : Rng J r) (h : J p = none) : ∃ J' : Hp, upd J p o = J' ∧
    Same J J' ∧ Same (hide r J) (hide r J') ∧ Rng J' r ∧ J' p = some o ∧ hide r J' p = some o :=
  ⟨_, rfl, new_same h, hide_new h, R.new h, upd_same, hide_get (R.free h).symm upd_same⟩

def txOk (z : Str) : Prop := ∀ c ∈ z.cps.toList, c < 16 ^ 8
theorem txOk.app {a b : Str} (h1 : txOk a) (h2 : txOk b) : txOk (a ++ b) := by
  intro c hc
  have e : (a ++ b).cps.toList = a.cps.toList ++ b.cps.toList := TL.tl_append a b
  rw [e] at hc
  rcases List.mem_append.mp hc with h | h
  · exact h1 c h
  · exact h2 c h
def txB (z : Str) : Bool := z.cps.toList.all fun c => decide (c < 4294967296)
theorem txOk_by {z : Str} (h : txB z = true) : txOk z := by
  intro c hc
  have := List.all_eq_true.mp h c hc
  simpa using this
theorem from_ok : ∀ (ts : List Str) (k : Nat) (acc : Str), txOk acc → (∀ t ∈ ts, txOk t) → txOk (textFrom k acc ts)
  | [], _, _, h, _ => h
  | t :: r, k, acc, h, a => by
    refine from_ok r (k + 1) _ ((h.app ?_).app (a t (by simp))) fun x hx => a x (by simp [hx])
    split
    · exact txOk_by (by decide +kernel)
    · exact txOk_by (by decide +kernel)
theorem join_ok {s : Str} (hs : txOk s) : ∀ ts : List Str, (∀ t ∈ ts, txOk t) → txOk (Str.join s ts)
  | [], _ => fun c hc => absurd (show c ∈ ([] : List Nat) from hc) (by simp)
  | [x], a => a x (by simp)
  | x :: y :: r, a => ((a x (by simp)).app hs).app (join_ok hs (y :: r) fun t ht => a t (by simp at ht ⊢; exact .inr ht))
theorem listText_ok {ts : List Str} (a : ∀ t ∈ ts, txOk t) : txOk (listText ts) :=
  (from_ok ts 0 _ (txOk_by (by decide +kernel)) a).app (txOk_by (by decide +kernel))
theorem tupleText_ok {ts : List Str} (a : ∀ t ∈ ts, txOk t) : txOk (tupleText ts) := by
  unfold tupleText
  refine ((txOk_by (by decide +kernel)).app (join_ok (txOk_by (by decide +kernel)) ts a)).app ?_
  split
  · exact txOk_by (by decide +kernel)
  · exact txOk_by (by decide +kernel)
/-- d can be shown, its depth, its length -/
def Ok2 (n k : Nat) (d : PyData) : Prop := d.showable = true ∧ d.depth ≤ k ∧ d.shown.length ≤ n
def Ok3 (n k : Nat) (d : PyData) : Prop := Ok2 n k d ∧ txOk d.shown
theorem Ok2.mono {n k n' k' : Nat} {d : PyData} (h : Ok2 n k d) (hn : n ≤ n') (hk : k ≤ k') : Ok2 n' k' d :=
  ⟨h.1, Nat.le_trans h.2.1 hk, Nat.le_trans h.2.2 hn⟩
theorem Ok3.mono {n k n' k' : Nat} {d : PyData} (h : Ok3 n k d) (hn : n ≤ n') (hk : k ≤ k') : Ok3 n' k' d := ⟨h.1.mono hn hk, h.2⟩
def ok3B (n k : Nat) (d : PyData) : Bool := d.showable && decide (d.depth ≤ k) && decide (d.shown.length ≤ n) && txB d.shown
theorem ok3_by {n k : Nat} {d : PyData} (h : ok3B n k d = true) : Ok3 n k d := by
  simp only [ok3B, Bool.and_eq_true, decide_eq_true_eq] at h
  exact ⟨⟨h.1.1.1, h.1.1.2, h.1.2⟩, txOk_by h.2⟩
theorem all_show : ∀ {ds : List PyData}, (∀ d ∈ ds, d.showable = true) → PyData.showableAll ds = true
  | [], _ => rfl
  | d :: r, a => by
    rw [PyData.showableAll, a d (by simp), all_show fun x hx => a x (by simp [hx])]
    rfl
theorem all_depth {k : Nat} : ∀ {ds : List PyData}, (∀ d ∈ ds, d.depth ≤ k) → PyData.depthAll ds ≤ k
  | [], _ => Nat.zero_le _
  | d :: r, a => by
    rw [PyData.depthAll]
    exact Nat.max_le.mpr ⟨a d (by simp), all_depth fun x hx => a x (by simp [hx])⟩
theorem all_sum {n : Nat} : ∀ {ds : List PyData}, (∀ d ∈ ds, d.shown.length ≤ n) → ((PyData.shownAll ds).map (·.length)).sum ≤ ds.length * n
  | [], _ => by simp [PyData.shownAll]
  | d :: r, a => by
    have h1 := a d (by simp)
    have h2 := all_sum (ds := r) fun x hx => a x (by simp [hx])
    rw [PyData.shownAll, List.map_cons, List.sum_cons, List.length_cons, Nat.add_mul]
    omega
theorem all_mem : ∀ {ds : List PyData} {t : Str}, t ∈ PyData.shownAll ds → ∃ d ∈ ds, t = d.shown
  | d :: r, t, h => by
    rw [PyData.shownAll] at h
    rcases List.mem_cons.mp h with e | e
    · exact ⟨d, by simp, e⟩
    · obtain ⟨x, hx, ex⟩ := all_mem e
      exact ⟨x, by simp [hx], ex⟩
theorem ok2_list {n k : Nat} {ds : List PyData} (a : ∀ d ∈ ds, Ok2 n k d) : Ok2 (ds.length * n + 2 * ds.length + 3) (k + 1) (.list ds) := by
  have s := all_sum fun d hd => (a d hd).2.2
  have l := PyData.shownAll_length ds
  refine ⟨all_show fun d hd => (a d hd).1, Nat.succ_le_succ (all_depth fun d hd => (a d hd).2.1), ?_⟩
  have h := listText_len_le (PyData.shownAll ds)
  show (listText (PyData.shownAll ds)).length ≤ _
  omega
theorem ok2_tup {n k : Nat} {ds : List PyData} (a : ∀ d ∈ ds, Ok2 n k d) : Ok2 (ds.length * n + 2 * ds.length + 3) (k + 1) (.tuple ds) := by
  have s := all_sum fun d hd => (a d hd).2.2
  have l := PyData.shownAll_length ds
  refine ⟨all_show fun d hd => (a d hd).1, Nat.succ_le_succ (all_depth fun d hd => (a d hd).2.1), ?_⟩
  have h := tupleText_len_le (PyData.shownAll ds)
  show (tupleText (PyData.shownAll ds)).length ≤ _
  omega
theorem ok3_list {n k : Nat} {ds : List PyData} (a : ∀ d ∈ ds, Ok3 n k d) : Ok3 (ds.length * n + 2 * ds.length + 3) (k + 1) (.list ds) := by
  refine ⟨ok2_list fun d hd => (a d hd).1, listText_ok fun t ht => ?_⟩
  obtain ⟨d, hd, rfl⟩ := all_mem ht
  exact (a d hd).2
theorem ok3_tup {n k : Nat} {ds : List PyData} (a : ∀ d ∈ ds, Ok3 n k d) : Ok3 (ds.length * n + 2 * ds.length + 3) (k + 1) (.tuple ds) := by
  refine ⟨ok2_tup fun d hd => (a d hd).1, tupleText_ok fun t ht => ?_⟩
  obtain ⟨d, hd, rfl⟩ := all_mem ht
  exact (a d hd).2
theorem ok2_str {n : Nat} {z : Str} (h : txOk z) (hl : z.length ≤ n) : Ok2 (10 * n + 2) 0 (.str z) := by
  refine ⟨rfl, Nat.le_refl _, ?_⟩
  have e := StrLaws.reprText_len z h
  show (reprText z).length ≤ _
  omega
theorem ok3_int {i : Int} {n : Nat} (h0 : 0 ≤ i) (h : i.natAbs < 10 ^ n) (n0 : 0 < n) (n1 : n ≤ 130) : Ok3 n 0 (.int i) := by
  have lg : i.natAbs.log2 < 450 := PySem.Flt.log2_lt_of (by decide) (Nat.lt_of_lt_of_le h (Nat.le_trans (Nat.pow_le_pow_right (by decide) n1) (by decide +kernel)))
  refine ⟨⟨?_, Nat.le_refl _, ?_⟩, ?_⟩
  · simp only [PyData.showable, decide_eq_true_eq]
    omega
  · show (N4.tx i).length ≤ n
    have e : i = ((i.toNat : Nat) : Int) := by omega
    unfold N4.tx
    rw [e, TL.len_tl, TL.tl_num]
    exact TL.numL_len n0 (by omega)
  · show txOk (N4.tx i)
    intro c hc
    have := (N4.canon_parts (N4.canon_tx h0)).1 c hc
    omega
section
variable {X : Cx}
def Shw (d : PyData) : Prop := d.showable = true ∧ d.depth ≤ 60 ∧ d.shown.length ≤ sizeLine
theorem Ok2.shw {n k : Nat} {d : PyData} (h : Ok2 n k d) (hn : n ≤ 12000000) (hk : k ≤ 60) : Shw d :=
  ⟨h.1, Nat.le_trans h.2.1 hk, Nat.le_trans h.2.2 (Nat.le_trans hn (by decide))⟩
def rRepS : List V → Hp → VK → Prop := fun xs H Q =>
  ∃ (v : V) (d : PyData), xs = [v] ∧ Da H v d ∧ Shw d ∧ Q (.str d.shown) H
theorem call_repS (gd : X.A.guards = some []) (hu : X.A.units + 64 < cLine) :
    CallR X (.builtin "repr") rRepS := by
  intro pins s σ H xs us Q I r h
  obtain ⟨v, d, rfl, hd, ⟨hs, hp, hz⟩, q⟩ := h
  obtain ⟨u, rfl, rv⟩ := vals1 r
  obtain ⟨as, R, nm⟩ := hd.reads I rv
  cases R with
  | none => exact PySem.P.repr_of_none ⟨.str _, H, I.tok _, ⟨_, rfl⟩, q⟩
  | bool b => exact PySem.P.repr_of_bool ⟨.str _, H, I.tok _, ⟨_, rfl⟩, q⟩
  | int i t =>
    have hi : i.natAbs.log2 < 1920 := by simpa [PyData.showable] using hs
    exact PySem.P.repr_of_int hi ⟨.str _, H, I.tok _, ⟨_, rfl⟩, q⟩
  | str y t => exact PySem.P.repr_of_str ⟨.str _, H, I.tok _, ⟨_, rfl⟩, q⟩ hz
  | list h1 h2 h3 h4 =>
    exact repr_of_reads' (.list h1 h2 h3 h4) hs (fun _ => nm) gd (by omega)
      (fun _ _ e => e) (fun h' u tk k => ⟨.str _, H, I.kept k, ⟨_, rfl⟩, q⟩) hz
  | tuple h1 h2 h3 h4 =>
    exact repr_of_reads' (.tuple h1 h2 h3 h4) hs (fun _ => nm) gd (by omega)
      (fun _ _ e => e) (fun h' u tk k => ⟨.str _, H, I.kept k, ⟨_, rfl⟩, q⟩) hz
  | dict h1 h2 h3 h4 h5 =>
    exact repr_of_reads' (.dict h1 h2 h3 h4 h5) hs (fun _ => nm) gd (by omega)
      (fun _ _ e => e) (fun h' u tk k => ⟨.str _, H, I.kept k, ⟨_, rfl⟩, q⟩) hz
end
end G
namespace N2
open PySem L2 G N4
def tp (i : Nat) : Stmt :=
  PySem.Challenge.pw_groupsteps_k12_windows_judged.main.body.getD i (.Pass ⟨0, 0, 0, 0⟩)
abbrev sIniN : Stmt := inClass (tp 2) 0
abbrev sIniV : Stmt := inClass (tp 3) 0
abbrev sIniW : Stmt := inClass (tp 4) 0
abbrev sIniS : Stmt := inClass (tp 5) 0
abbrev sIsVer : Stmt := tp 7
abbrev sReqVer : Stmt := tp 8
abbrev sIsWin : Stmt := tp 10
abbrev sReqWin : Stmt := tp 11
abbrev sReach : Stmt := tp 12
abbrev sCont : Stmt := tp 13
abbrev sRises : Stmt := tp 14
abbrev sRng : Stmt := tp 16
abbrev sDraw : Stmt := tp 17
abbrev sChoice : Stmt := tp 18
abbrev sLIV : Stmt := tp 19
abbrev sLIW : Stmt := tp 20
abbrev sWindow : Stmt := tp 21
abbrev sNear : Stmt := tp 22
abbrev sChanged : Stmt := tp 23
abbrev sTold : Stmt := tp 24
abbrev sCDue : Stmt := tp 25
abbrev sRDue : Stmt := tp 26
abbrev sPair : Stmt := tp 27
abbrev sLaw : Stmt := tp 28
structure Txt (mg : Str → Option Value) : Prop where
  len : mg "len" = none
  abs : mg "abs" = none
  max : mg "max" = none
  min : mg "min" = none
  divmod : mg "divmod" = none
  isi : mg "isinstance" = none
  tuple : mg "tuple" = none
  int : mg "int" = none
  bool : mg "bool" = none
  list : mg "list" = none
  range : mg "range" = none
  repr : mg "repr" = none
  look : mg "LookupError" = none
  run : mg "RuntimeError" = none
  arith : mg "ArithmeticError" = none
  value : mg "ValueError" = none
def hV : Option Int → V
  | none => .non
  | some x => .int x
def hD : Option Int → PyData
  | none => .none
  | some x => .int x
def WinAt (H : Hp) (t : Addr) (w : Wn) : Prop := H t = some (.tup [.int w.1, hV w.2])
def wD (w : Wn) : PyData := .tuple [.int w.1, hD w.2]
theorem hDa {H : Hp} : ∀ h : Option Int, Da H (hV h) (hD h)
  | none => .non
  | some x => .int x
theorem WinAt.da {H : Hp} {t : Addr} {w : Wn} (h : WinAt H t w) : Da H (.ref t) (wD w) :=
  .tup h (.cons (.int _) (.cons (hDa _) .nil))
def verB : PyData → Bool
  | .int i => decide (0 ≤ i)
  | _ => false
def isNone : PyData → Bool
  | .none => true
  | _ => false
def geB : PyData → PyData → Bool
  | .int h, .int l => decide (h ≥ l)
  | _, _ => false
def winB : PyData → Bool
  | .tuple [lo, hi] => verB lo && (isNone hi || (verB hi && geB hi lo))
  | _ => false

def isTuple : PyData → Bool
  | .tuple _ => true
  | _ => false
def isInt : PyData → Bool
  | .int _ => true
  | .bool _ => true
  | _ => false
def isBool : PyData → Bool
  | .bool _ => true
  | _ => false
def isList : PyData → Bool
  | .list _ => true
  | _ => false

theorem kTuple {K : PySem.W.Frag} : ∀ d : PyData,
    PySem.W.kitOne K (.type (tyD d)) (.type "tuple") = some (isTuple d)
  | .none => kit_ty (a := "NoneType") (b := "tuple") (r := false) (by decide +kernel)
  | .bool _ => kit_ty (a := "bool") (b := "tuple") (r := false) (by decide +kernel)
  | .int _ => kit_ty (a := "int") (b := "tuple") (r := false) (by decide +kernel)
  | .str _ => kit_ty (a := "str") (b := "tuple") (r := false) (by decide +kernel)
  | .list _ => kit_ty (a := "list") (b := "tuple") (r := false) (by decide +kernel)
  | .tuple _ => kit_ty (a := "tuple") (b := "tuple") (r := true) (by decide +kernel)
  | .dict _ => kit_ty (a := "dict") (b := "tuple") (r := false) (by decide +kernel)
theorem kInt {K : PySem.W.Frag} : ∀ d : PyData,
    PySem.W.kitOne K (.type (tyD d)) (.type "int") = some (isInt d)
  | .none => kit_ty (a := "NoneType") (b := "int") (r := false) (by decide +kernel)
  | .bool _ => kit_ty (a := "bool") (b := "int") (r := true) (by decide +kernel)
  | .int _ => kit_ty (a := "int") (b := "int") (r := true) (by decide +kernel)
  | .str _ => kit_ty (a := "str") (b := "int") (r := false) (by decide +kernel)
  | .list _ => kit_ty (a := "list") (b := "int") (r := false) (by decide +kernel)
  | .tuple _ => kit_ty (a := "tuple") (b := "int") (r := false) (by decide +kernel)
  | .dict _ => kit_ty (a := "dict") (b := "int") (r := false) (by decide +kernel)
theorem kBool {K : PySem.W.Frag} : ∀ d : PyData,
    PySem.W.kitOne K (.type (tyD d)) (.type "bool") = some (isBool d)
  | .none => kit_ty (a := "NoneType") (b := "bool") (r := false) (by decide +kernel)
  | .bool _ => kit_ty (a := "bool") (b := "bool") (r := true) (by decide +kernel)
  | .int _ => kit_ty (a := "int") (b := "bool") (r := false) (by decide +kernel)
  | .str _ => kit_ty (a := "str") (b := "bool") (r := false) (by decide +kernel)
  | .list _ => kit_ty (a := "list") (b := "bool") (r := false) (by decide +kernel)
  | .tuple _ => kit_ty (a := "tuple") (b := "bool") (r := false) (by decide +kernel)
  | .dict _ => kit_ty (a := "dict") (b := "bool") (r := false) (by decide +kernel)

theorem winB_inv {d : PyData} (h : winB d = true) : ∃ w : Wn, d = wD w ∧ 0 ≤ w.1 ∧ ∀ x, w.2 = some x → w.1 ≤ x := by
  unfold winB at h
  split at h
  · rename_i lo hi
    simp only [Bool.and_eq_true, Bool.or_eq_true] at h
    obtain ⟨h1, h2⟩ := h
    cases lo with
    | int l =>
      have l0 : 0 ≤ l := by simpa [verB] using h1
      cases hi with
      | none => exact ⟨(l, none), rfl, l0, fun x e => by cases e⟩
      | int z =>
        have h3 : verB (.int z) = true ∧ geB (.int z) (.int l) = true := by simpa [isNone] using h2
        have h4 : l ≤ z := by simpa [geB] using h3.2
        exact ⟨(l, some z), rfl, l0, fun x e => by cases e; exact h4⟩
      | _ => simp [isNone, verB] at h2
    | _ => simp [verB] at h1
  · cases h
theorem verB_inv {d : PyData} (h : verB d = true) : ∃ i : Int, d = .int i ∧ 0 ≤ i := by
  cases d with
  | int i => exact ⟨i, rfl, by simpa [verB] using h⟩
  | _ => simp [verB] at h
theorem win_wD {w : Wn} (h0 : 0 ≤ w.1) (h1 : ∀ x, w.2 = some x → w.1 ≤ x) : winB (wD w) = true := by
  obtain ⟨l, o⟩ := w
  cases o with
  | none =>
    have e : 0 ≤ l := h0
    simp [wD, winB, verB, hD, isNone, e]
  | some x =>
    have e1 : 0 ≤ l := h0
    have e2 : l ≤ x := h1 x rfl
    have e3 : 0 ≤ x := by omega
    simp [wD, winB, verB, hD, isNone, geB, e1, e2, e3]
theorem win_at {H : Hp} {v : V} {w : Wn} (h : Da H v (wD w)) : ∃ t, v = .ref t ∧ WinAt H t w := by
  obtain ⟨l, o⟩ := w
  unfold wD at h
  cases h with
  | @tup a xs _ ha t =>
    cases t with
    | cons h1 t =>
      cases t with
      | cons h2 t =>
        cases t
        cases h1
        refine ⟨a, rfl, ?_⟩
        cases o with
        | none => cases h2; exact ha
        | some x => cases h2; exact ha
def reach : Option Int → Int → Bool
  | none, _ => true
  | some h, n => decide (h ≥ n)
def contW (w : Wn) (n : Int) : Bool := decide (w.1 ≤ n) && reach w.2 n
def risW (a b : Wn) : Bool :=
  if b.1 < a.1 then false else match a.2 with
    | none => b.2.isNone
    | some g => reach b.2 g
def spB (b : PyData → Bool) : Sp := fun vs H Q _ => ∃ (v : V) (d : PyData),
  vs = [v] ∧ Da H v d ∧ Q (.bl (b d)) H
/-- the error of a class with one field -/
def Err (E : XK) (C : Addr) (f : Str) (v : V) (H : Hp) : Prop := ∀ d, H d = none → E (.ref C) (some d) (upd H d (.xd [(f, v)]))
def spReqX (b : PyData → Bool) (C : Addr) : Sp := fun vs H Q E => ∃ (v : V) (d : PyData), vs = [v] ∧ Da H v d ∧ (b d = true → Q .non H) ∧
  (b d = false → Err E C "value" v H)
def spReach : Sp := fun vs H Q _ => ∃ (h : Option Int) (n : Int), vs = [hV h, .int n] ∧ Q (.bl (reach h n)) H
def spCont (CW CV : Addr) : Sp := fun vs H Q E => ∃ (v1 v2 : V) (d1 d2 : PyData), vs = [v1, v2] ∧ Da H v1 d1 ∧ Da H v2 d2 ∧
  (∀ w x, winB d1 = true → verB d2 = true → d1 = wD w → d2 = .int x → Q (.bl (contW w x)) H) ∧
  (winB d1 = false → Err E CW "value" v1 H) ∧ (winB d1 = true → verB d2 = false → Err E CV "value" v2 H)
def spRises (CW : Addr) : Sp := fun vs H Q E => ∃ (v1 v2 : V) (d1 d2 : PyData), vs = [v1, v2] ∧ Da H v1 d1 ∧ Da H v2 d2 ∧
  (∀ w u, winB d1 = true → winB d2 = true → d1 = wD w → d2 = wD u → Q (.bl (risW w u)) H) ∧
  (winB d1 = false → Err E CW "value" v1 H) ∧ (winB d1 = true → winB d2 = false → Err E CW "value" v2 H)

section
variable {P : Program} {w : World} {K : PySem.W.Frag} {mg : Str → Option Value} {base : Heap}
theorem scR : FnScope ["_law_script", "_law_k", "_law_cell"] ["_law_script", "_law_k"]
    (defScope sRng) :=
  ⟨rfl, rfl, rfl, by decide +kernel, rfl, by decide +kernel, by decide +kernel⟩
theorem ok_rng {f : Addr} {fd : FuncData} (F : Fun K "_law_rng" "_law_rng" sRng f fd) (T : Txt mg) :
    FnOk P w K mg base CX0 1 f fd ["_law_script", "_law_k"] (spRng K) := by
  refine F.ok scR (fun vs H Q E h => ?_) (fun cdv A outer s H vs Q E hr h => ?_)
  · obtain ⟨a, ns, k, rfl, _⟩ := h
    rfl
  · obtain ⟨a, ns, k, rfl, hS, k0, k1, q⟩ := h
    refine ⟨_, pss_cons (ps_set (i := 2) scR.nd rfl (Or.inl rfl)
        (pe_ifExp (pt_cmpR op_lt (pv 1) (pe_callB call_len_seq (by rfl) T.len PySem.boot_len (pa_cons (pv 0) pa_nil)) (nomark _))
          (pe_callB call_abs (by rfl) T.abs (by decide +kernel) (pa_cons (pe_ix ix_list (pv 0) (pv 1) (fun _ _ => rfl)) pa_nil)) pe_int))
      (pss_one (ps_ret (pe_lst (pa_cons
        (pe_callB (call_max2 rfl) (by rfl) T.max (by decide +kernel) (pa_cons pe_int (pa_cons (pe_op op_sub (pv 2) (pe_op op_pow pe_int pe_int)) pa_nil)))
        (pa_cons (pe_op op_add (pe_op op_mod (pe_op op_pow (pe_op op_add (pe_op op_add (pe_op op_mod (pv 2) pe_int) (pe_op op_mul pe_int (pv 1))) pe_int) pe_int) pe_int) pe_int) pa_nil))))), ?_⟩
    refine ⟨_, rfl, _, rfl, a, _, rfl, .inl hS, _, _, rfl, rfl, _, rfl, ?_⟩
    have fin : ∀ c : Int, 0 ≤ c → ∀ (x y : Int), x = (if c - 10 ^ (18 : Int).toNat > 0 then c - 10 ^ (18 : Int).toNat else 0) →
        y = (c % 2147483543 + 101 * k + 7) ^ (2 : Int).toNat % 2147483497 + 1 → 0 ≤ x ∧ 0 ≤ y ∧ y < 2147483587 := by
      intro c hc x y hx hy
      have e1 := Int.emod_nonneg ((c % 2147483543 + 101 * k + 7) ^ (2 : Int).toNat) (by decide : (2147483497 : Int) ≠ 0)
      have e2 := Int.emod_lt_of_pos ((c % 2147483543 + 101 * k + 7) ^ (2 : Int).toNat) (by decide : (0 : Int) < 2147483497)
      refine ⟨?_, by omega, by omega⟩
      rw [hx]
      split <;> omega
    have tail : ∀ c : Int, 0 ≤ c → ∀ p, H p = none → ∀ (x y : Int), 0 ≤ x ∧ 0 ≤ y ∧ y < 2147483587 → Q (.ref p) (upd H p (.lst [.int x, .int y])) := by
      intro c hc p hp x y hxy
      exact q p _ hp (fun b o e => by rw [upd_ne (ne_of_none e hp)]; exact e) ⟨x, y, upd_same, hxy⟩
    have bnd : ∀ c : Int, (c % 2147483543 + 101 * k + 7).natAbs < 2 ^ 64 := fun c => by
      have e1 := Int.emod_nonneg c (by decide : (2147483543 : Int) ≠ 0)
      have e2 := Int.emod_lt_of_pos c (by decide : (0 : Int) < 2147483543)
      omega
    refine ite2 (fun hlt => ?_) (fun _ => ?_)
    · have hlt' : k < (ns.map V.int).length := of_decide_eq_true hlt
      have hk : k = ((k.toNat : Nat) : Int) := by omega
      have hk2 : k.toNat < ns.length := by rw [List.length_map] at hlt'; omega
      refine ⟨_, rfl, _, rfl, a, _, _, .int (ns[k.toNat]), rfl, rfl, hS, at_in k0 (by simp [hk2]), _, rfl, ?_⟩
      have hc : (0 : Int) ≤ if ns[k.toNat] < 0 then -ns[k.toNat] else ns[k.toNat] := by split <;> omega
      generalize (if ns[k.toNat] < 0 then -ns[k.toNat] else ns[k.toNat]) = c at hc
      refine ⟨_, rfl, _, _, rfl, rfl, ⟨by decide, by decide, by decide⟩, _, _, rfl, rfl, _, _, rfl, ?_⟩
      refine ⟨_, rfl, _, _, rfl, rfl, (by show (0 : Int) < 2147483543; decide), _, rfl, _, _, rfl, rfl, .inl ⟨by decide, by decide⟩, _, _, rfl, rfl, _, _, rfl, rfl, _, _, rfl, rfl, ⟨by decide, by decide, bnd c⟩, _, _, rfl, rfl, (by show (0 : Int) < 2147483497; decide), _, _, rfl, rfl, (by show 2 ≤ sizeLine; decide), fun p hp => ?_⟩
      exact tail c hc p hp _ _ (fin c hc _ _ rfl rfl)
    · refine ⟨_, rfl, _, _, rfl, rfl, ⟨by decide, by decide, by decide⟩, _, _, rfl, rfl, _, _, rfl, ?_⟩
      refine ⟨_, rfl, _, _, rfl, rfl, (by show (0 : Int) < 2147483543; decide), _, rfl, _, _, rfl, rfl, .inl ⟨by decide, by decide⟩, _, _, rfl, rfl, _, _, rfl, rfl, _, _, rfl, rfl, ⟨by decide, by decide, bnd 0⟩, _, _, rfl, rfl, (by show (0 : Int) < 2147483497; decide), _, _, rfl, rfl, (by show 2 ≤ sizeLine; decide), fun p hp => ?_⟩
      exact tail 0 (by decide) p hp _ _ (fin 0 (by decide) _ _ rfl rfl)

theorem scD : FnScope ["_law_rng_here", "_law_many", "_law_digit"] ["_law_rng_here", "_law_many"]
    (defScope sDraw) :=
  ⟨rfl, rfl, rfl, by decide +kernel, rfl, by decide +kernel, by decide +kernel⟩
theorem ok_draw {f : Addr} {fd : FuncData} (F : Fun K "_law_draw" "_law_draw" sDraw f fd) (T : Txt mg) :
    FnOk P w K mg base CX0 1 f fd ["_law_rng_here", "_law_many"] spDraw := by
  refine F.ok scD (fun vs H Q E h => ?_) (fun cdv A outer s H vs Q E hr h => ?_)
  · obtain ⟨r, m, rfl, _⟩ := h
    rfl
  · obtain ⟨r, m, rfl, R, m0, m1, q⟩ := h
    have R' := R
    obtain ⟨a, b, hL, a0, b0, b1⟩ := R
    refine ⟨_, pss_cons (ps_if (pt_cmpR op_gt (pe_ix ix_list (pv 0) pe_int (fun _ _ => rfl)) pe_int (nomark _))
        (pss_cons (ps_asg (pe_callB call_divmodW (by rfl) T.divmod (by decide +kernel) (pa_cons (pe_ix ix_list (pv 0) pe_int (fun _ _ => rfl)) (pa_cons (pv 1) pa_nil)))
            (pg_tup rfl (pgs_cons (pg_sub (pv 0) pe_int set_list) (pgs_cons (pg_name (i := 2) scD.nd rfl (Or.inl rfl)) pgs_nil))))
          (pss_one (ps_ret (pv 2)))) pss_nil)
      (pss_cons (ps_asg (pe_op op_mod (pe_op op_add (pe_op op_mul (pe_ix ix_list (pv 0) pe_int (fun _ _ => rfl)) pe_int) pe_int) pe_int) (pg_sub (pv 0) pe_int set_list))
        (pss_one (ps_ret (pe_op op_mod (pe_op op_fdiv (pe_op op_mod (pe_op op_mul (pe_ix ix_list (pv 0) pe_int (fun _ _ => rfl)) (pe_ix ix_list (pv 0) pe_int (fun _ _ => rfl))) pe_int) pe_int) (pv 1))))), ?_⟩
    refine ⟨_, rfl, r, _, _, _, rfl, rfl, SqL.of hL, rfl, _, _, rfl, rfl, _, rfl, ?_⟩
    refine ite2 (fun hgt => ?_) (fun _ => ?_)
    · refine ⟨_, rfl, r, _, _, _, rfl, rfl, SqL.of hL, rfl, _, rfl, _, _, rfl, ⟨m0, PyProof.noPylong_of_log2 (Nat.lt_of_lt_of_le (PySem.Flt.log2_lt_of (by decide) m1) (by decide))⟩, fun p hp => ?_⟩
      have nrp : r ≠ p := ne_of_none hL hp
      refine ⟨p, _, rfl, SqT.of upd_same, rfl, ?_⟩
      refine ⟨_, _, rfl, _, rfl, r, _, _, _, rfl, rfl, (by rw [upd_ne nrp]; exact hL), rfl, ?_⟩
      refine ⟨_, _, rfl, rfl, _, rfl, ?_⟩
      refine q _ _ ((Ext.new hp).trans Ext.at) ⟨_, _, upd_same, Int.ediv_nonneg a0 (by omega), b0, b1⟩ (Int.emod_nonneg _ (by omega)) (Int.emod_lt_of_pos _ m0)
    · refine ⟨_, rfl, r, _, _, _, rfl, rfl, SqL.of hL, rfl, _, _, rfl, rfl, .inr ⟨by decide, by decide⟩, _, _, rfl, rfl, _, _, rfl, rfl, (by show (0 : Int) < 2147483587; decide), ?_⟩
      refine ⟨_, rfl, r, _, _, _, rfl, rfl, hL, rfl, ?_⟩
      have c0 := Int.emod_nonneg (b * 48271 + 10007) (by decide : (2147483587 : Int) ≠ 0)
      have c1 := Int.emod_lt_of_pos (b * 48271 + 10007) (by decide : (0 : Int) < 2147483587)
      refine ⟨_, rfl, r, _, _, _, rfl, rfl, SqL.of upd_same, rfl, _, rfl, r, _, _, _, rfl, rfl, SqL.of upd_same, rfl, _, _, rfl, rfl, .inl ⟨Int.lt_of_lt_of_le (by decide) c0, Int.lt_trans c1 (by decide)⟩, _, _, rfl, rfl, (by show (0 : Int) < 2147483549; decide), _, _, rfl, rfl, ⟨by decide, by decide⟩, _, rfl, _, _, rfl, rfl, m0, ?_⟩
      exact q _ _ Ext.at ⟨_, _, upd_same, a0, c0, c1⟩ (Int.emod_nonneg _ (by omega)) (Int.emod_lt_of_pos _ m0)

theorem scC : FnScope ["_law_rng_here", "_law_options"] ["_law_rng_here", "_law_options"]
    (defScope sChoice) :=
  ⟨rfl, rfl, rfl, by decide +kernel, rfl, by decide +kernel, by decide +kernel⟩
theorem ok_choice {f fD : Addr} {fd fdD : FuncData} (F : Fun K "_law_choice" "_law_choice" sChoice f fd) (T : Txt mg)
    (D : Fun K "_law_draw" "_law_draw" sDraw fD fdD) (bD : Binds K fdD ["_law_rng_here", "_law_many"] []) (gD : mg "_law_draw" = some (.ref fD)) :
    FnOk P w K mg base CX0 2 f fd ["_law_rng_here", "_law_options"] (spChoice K) := by
  refine F.ok scC (fun vs H Q E h => ?_) (fun cdv A outer s H vs Q E hr h => ?_)
  · obtain ⟨r, l, xs, rfl, _⟩ := h
    rfl
  · obtain ⟨r, l, xs, rfl, R, hl, nl, x0, x1, q⟩ := h
    refine ⟨_, pss_one (ps_ret (pe_ix ix_list (pv 1) (pe_call (ok_draw D T) hr (by rfl) gD D.kp bD .nil pass0 (pa_cons (pv 0) (pa_cons (pe_callB call_len_seq (by rfl) T.len PySem.boot_len (pa_cons (pv 1) pa_nil)) pa_nil))) (fun _ _ => rfl))), ?_⟩
    refine ⟨_, rfl, _, rfl, _, rfl, l, _, rfl, .inl hl, r, _, rfl, R, by omega, by omega, fun d H' E' R' d0 d1 => ?_⟩
    have hd : d = ((d.toNat : Nat) : Int) := by omega
    have hd2 : d.toNat < xs.length := by omega
    refine ⟨l, _, _, xs[d.toNat], rfl, rfl, E'.sqL nl hl, at_in d0 (by simp [hd2]), ?_⟩
    exact q _ _ E' R' (List.getElem_mem _)

theorem scV : FnScope ["value"] ["value"] (defScope sIsVer) :=
  ⟨rfl, rfl, rfl, by decide +kernel, rfl, by decide +kernel, by decide +kernel⟩
theorem ok_ver {f : Addr} {fd : FuncData} (F : Fun K "is_version" "is_version" sIsVer f fd) (T : Txt mg) :
    FnOk P w K mg base CX0 1 f fd ["value"] (spB verB) := by
  refine F.ok scV (fun vs H Q E h => ?_) (fun cdv A outer s H vs Q E hr h => ?_)
  · obtain ⟨v, d, rfl, _⟩ := h
    rfl
  · obtain ⟨v, d, rfl, hd, q0⟩ := h
    refine ⟨_, pss_one (ps_ret (pe_and (pe_callB call_isi (by rfl) T.isi (by decide +kernel) (pa_cons (pv 0) (pa_cons (pe_bltn (v := .ty "int") (by rfl) T.int (by decide +kernel) rfl) pa_nil)))
      (pe_and (pe_not (pe_callB call_isi (by rfl) T.isi (by decide +kernel) (pa_cons (pv 0) (pa_cons (pe_bltn (v := .ty "bool") (by rfl) T.bool (by decide +kernel) rfl) pa_nil))))
        (pe_one (pe_cmpR op_ge (pv 0) pe_int (nomark _)))))), ?_⟩
    have ty := hd.ty (K := K)
    refine ⟨_, rfl, _, _, _, _, _, rfl, .ty _, ty, kInt d, _, rfl, ?_⟩
    cases hd with
    | int i => exact iteT ⟨_, rfl, _, _, _, _, _, rfl, .ty _, ty, kBool _, _, rfl, _, rfl, iteT ⟨_, rfl, _, _, rfl, rfl, q0⟩⟩
    | bl b => exact iteT ⟨_, rfl, _, _, _, _, _, rfl, .ty _, ty, kBool _, _, rfl, _, rfl, iteF q0⟩
    | non => exact iteF q0
    | str i => exact iteF q0
    | lst n h t => exact iteF q0
    | tup h t => exact iteF q0
    | dic h t => exact iteF q0


theorem scW : FnScope ["value", "low", "high"] ["value"] (defScope sIsWin) :=
  ⟨rfl, rfl, rfl, by decide +kernel, rfl, by decide +kernel, by decide +kernel⟩
theorem ok_win {f f1 : Addr} {fd fd1 : FuncData} (F : Fun K "is_window" "is_window" sIsWin f fd) (T : Txt mg)
    (F1 : Fun K "is_version" "is_version" sIsVer f1 fd1) (b1 : Binds K fd1 ["value"] []) (g1 : mg "is_version" = some (.ref f1)) :
    FnOk P w K mg base CX0 2 f fd ["value"] (spB winB) := by
  have G1 : FnOk P w K mg base CX0 1 f1 fd1 ["value"] (spB verB) := ok_ver F1 T
  refine F.ok scW (fun vs H Q E h => ?_) (fun cdv A outer s H vs Q E hr h => ?_)
  · obtain ⟨v, d, rfl, _⟩ := h
    rfl
  · obtain ⟨v, d, rfl, hd, q⟩ := h
    refine ⟨_, pss_cons (ps_if (PW.pt (pw_or (pt_not (pt_val (pe_callB call_isi (by rfl) T.isi (by decide +kernel) (pa_cons (pv 0) (pa_cons (pe_bltn (v := .ty "tuple") (by rfl) T.tuple (by decide +kernel) rfl) pa_nil)))))
          (pw_or1 (pt_cmpR op_ne (pe_callB call_len_seq (by rfl) T.len PySem.boot_len (pa_cons (pv 0) pa_nil)) pe_int (nomark _)))))
        (pss_one (ps_ret pe_bl)) pss_nil)
      (pss_cons (ps_asg (pv 0) (pg_tup rfl (pgs_cons (pg_name (i := 1) scW.nd rfl (Or.inl rfl)) (pgs_cons (pg_name (i := 2) scW.nd rfl (Or.inl rfl)) pgs_nil))))
      (pss_cons (ps_if (pt_not (pt_val (pe_call G1 hr (by rfl) g1 F1.kp b1 .nil pass0 (pa_cons (pv 1) pa_nil)))) (pss_one (ps_ret pe_bl)) pss_nil)
      (pss_one (ps_ret (pe_or (pe_cmp (pc_isN (pv 2))) (pe_one (pe_and (pe_call G1 hr (by rfl) g1 F1.kp b1 .nil pass0 (pa_cons (pv 2) pa_nil)) (pe_one (pe_cmpR op_ge (pv 2) (pv 1) (nomark _)))))))))), ?_⟩
    have ty := hd.ty (K := K)
    refine ⟨_, rfl, _, _, _, _, _, rfl, .ty _, ty, kTuple d, _, rfl, ?_⟩
    cases hd with
    | @tup a xs ds h t =>
      refine iteF ?_
      refine ⟨_, rfl, a, _, rfl, .inr (SqT.of h), rfl, _, rfl, ?_⟩
      match xs, ds, t with
      | [x, y], [dx, dy], .cons hx (.cons hy .nil) =>
        refine iteF ?_
        refine ⟨_, rfl, a, _, rfl, SqT.of h, rfl, _, _, rfl, _, _, rfl, rfl, ?_⟩
        refine ⟨_, rfl, x, dx, rfl, hx, _, rfl, ?_⟩
        cases hb : verB dx with
        | false =>
          have e : winB (.tuple [dx, dy]) = false := by simp [winB, hb]
          rw [e] at q
          exact iteT q
        | true =>
          refine iteF ?_
          refine ⟨_, rfl, _, rfl, ?_⟩
          cases hx with
          | int l =>
            cases hy with
            | non => exact iteT (by simpa [winB, hb, isNone] using q)
            | int z =>
              refine iteF ?_
              refine ⟨_, rfl, _, _, rfl, .int z, _, rfl, ?_⟩
              cases hz : verB (.int z) with
              | false =>
                have e : winB (.tuple [.int l, .int z]) = false := by simp [winB, hz, isNone]
                rw [e] at q
                exact iteF q
              | true =>
                refine iteT ⟨_, rfl, _, rfl, _, _, rfl, rfl, ?_⟩
                have e : winB (.tuple [.int l, .int z]) = decide (z ≥ l) := by simp [winB, hb, hz, isNone, geB]
                rw [e] at q
                exact q
            | bl z => exact iteF ⟨_, rfl, _, _, rfl, .bl z, _, rfl, iteF (by simpa [winB, verB, isNone] using q)⟩
            | str z => exact iteF ⟨_, rfl, _, _, rfl, .str z, _, rfl, iteF (by simpa [winB, verB, isNone] using q)⟩
            | lst n2 h2 t2 => exact iteF ⟨_, rfl, _, _, rfl, .lst n2 h2 t2, _, rfl, iteF (by simpa [winB, verB, isNone] using q)⟩
            | tup h2 t2 => exact iteF ⟨_, rfl, _, _, rfl, .tup h2 t2, _, rfl, iteF (by simpa [winB, verB, isNone] using q)⟩
            | dic h2 t2 => exact iteF ⟨_, rfl, _, _, rfl, .dic h2 t2, _, rfl, iteF (by simpa [winB, verB, isNone] using q)⟩
          | _ => simp [verB] at hb
      | [], [], .nil => exact iteT q
      | [x], [dx], .cons hx .nil => exact iteT q
      | x :: y :: z :: r, dx :: dy :: dz :: dr, .cons hx (.cons hy (.cons hz t)) =>
        have e : decide (V.int ((x :: y :: z :: r).length : Nat) = V.int 2) = false := by
          apply decide_eq_false
          intro z
          have := V.int.inj z
          simp only [List.length_cons] at this
          omega
        rw [e]
        exact iteT q
    | int i => exact iteT q
    | bl b => exact iteT q
    | non => exact iteT q
    | str i => exact iteT q
    | lst n h t => exact iteT q
    | dic h t => exact iteT q


theorem scRV : FnScope ["value"] ["value"] (defScope sReqVer) :=
  ⟨rfl, rfl, rfl, by decide +kernel, rfl, by decide +kernel, by decide +kernel⟩
theorem ok_reqV {f f1 C : Addr} {fd fd1 : FuncData} (F : Fun K "require_version" "require_version" sReqVer f fd)
    (G1 : FnOk P w K mg base CX0 1 f1 fd1 ["value"] (spB verB)) (k1 : PySem.W.keepIn K (.ref f1) = true) (b1 : Binds K fd1 ["value"] []) (g1 : mg "is_version" = some (.ref f1))
    (TV : XCls P w K mg base "InvalidVersion" C "value" "value") :
    FnOk P w K mg base (L2.CX P w) 3 f fd ["value"] (spReqX verB C) := by
  refine F.okX scRV (fun vs H Q E h => ?_) (fun cdv A outer s H vs Q E hr h => ?_)
  · obtain ⟨v, d, rfl, _⟩ := h
    rfl
  · obtain ⟨v, d, rfl, hd, q1, q2⟩ := h
    have hr1 : Room 1 _ := hr.mono (by decide)
    refine ⟨_, pss_one (ps_if (pt_not (pt_val (pe_call G1 hr1 (by rfl) g1 k1 b1 .nil pass0 (pa_cons (pv 0) pa_nil))))
      (pss_one (ps_raiseC rfl TV hr (takes_of rfl rfl rfl rfl) (by rfl) (pv 0))) pss_nil), ?_⟩
    refine ⟨_, rfl, v, d, rfl, hd, _, rfl, ?_⟩
    cases hb : verB d with
    | true => exact iteF (q1 hb)
    | false => exact iteT ⟨_, rfl, made_go (q2 hb)⟩
theorem scRW : FnScope ["value"] ["value"] (defScope sReqWin) :=
  ⟨rfl, rfl, rfl, by decide +kernel, rfl, by decide +kernel, by decide +kernel⟩
theorem ok_reqX {f f1 C : Addr} {fd fd1 : FuncData} (F : Fun K "require_window" "require_window" sReqWin f fd)
    (G1 : FnOk P w K mg base CX0 2 f1 fd1 ["value"] (spB winB)) (k1 : PySem.W.keepIn K (.ref f1) = true) (b1 : Binds K fd1 ["value"] []) (g1 : mg "is_window" = some (.ref f1))
    (TW : XCls P w K mg base "InvalidWindow" C "value" "value") :
    FnOk P w K mg base (L2.CX P w) 3 f fd ["value"] (spReqX winB C) := by
  refine F.okX scRW (fun vs H Q E h => ?_) (fun cdv A outer s H vs Q E hr h => ?_)
  · obtain ⟨v, d, rfl, _⟩ := h
    rfl
  · obtain ⟨v, d, rfl, hd, q1, q2⟩ := h
    refine ⟨_, pss_one (ps_if (pt_not (pt_val (pe_call G1 hr (by rfl) g1 k1 b1 .nil pass0 (pa_cons (pv 0) pa_nil))))
      (pss_one (ps_raiseC rfl TW hr (takes_of rfl rfl rfl rfl) (by rfl) (pv 0))) pss_nil), ?_⟩
    refine ⟨_, rfl, v, d, rfl, hd, _, rfl, ?_⟩
    cases hb : winB d with
    | true => exact iteF (q1 hb)
    | false => exact iteT ⟨_, rfl, made_go (q2 hb)⟩
theorem scQ : FnScope ["high", "version"] ["high", "version"] (defScope sReach) :=
  ⟨rfl, rfl, rfl, by decide +kernel, rfl, by decide +kernel, by decide +kernel⟩
theorem ok_reach {f : Addr} {fd : FuncData} (F : Fun K "reaches" "reaches" sReach f fd) :
    FnOk P w K mg base CX0 1 f fd ["high", "version"] spReach := by
  refine F.ok scQ (fun vs H Q E h => ?_) (fun cdv A outer s H vs Q E hr h => ?_)
  · obtain ⟨h, n, rfl, _⟩ := h
    rfl
  · obtain ⟨h, n, rfl, q⟩ := h
    refine ⟨_, pss_one (ps_ret (pe_or (pe_cmp (pc_isN (pv 0))) (pe_one (pe_cmpR op_ge (pv 0) (pv 1) (nomark _))))), ?_⟩
    refine ⟨_, rfl, _, rfl, ?_⟩
    cases h with
    | none => exact iteT q
    | some x => exact iteF ⟨_, rfl, _, rfl, _, _, rfl, rfl, q⟩
theorem scK : FnScope ["window", "version", "low", "high"] ["window", "version"] (defScope sCont) :=
  ⟨rfl, rfl, rfl, by decide +kernel, rfl, by decide +kernel, by decide +kernel⟩
theorem ok_cont {f f1 f2 f3 CW CV : Addr} {fd fd1 fd2 fd3 : FuncData} (F : Fun K "contains" "contains" sCont f fd)
    (G1 : FnOk P w K mg base (L2.CX P w) 3 f1 fd1 ["value"] (spReqX winB CW)) (k1 : PySem.W.keepIn K (.ref f1) = true) (b1 : Binds K fd1 ["value"] []) (g1 : mg "require_window" = some (.ref f1))
    (G2 : FnOk P w K mg base (L2.CX P w) 3 f2 fd2 ["value"] (spReqX verB CV)) (k2 : PySem.W.keepIn K (.ref f2) = true) (b2 : Binds K fd2 ["value"] []) (g2 : mg "require_version" = some (.ref f2))
    (G3 : FnOk P w K mg base CX0 1 f3 fd3 ["high", "version"] spReach) (k3 : PySem.W.keepIn K (.ref f3) = true) (b3 : Binds K fd3 ["high", "version"] []) (g3 : mg "reaches" = some (.ref f3)) :
    FnOk P w K mg base (L2.CX P w) 4 f fd ["window", "version"] (spCont CW CV) := by
  refine F.okX scK (fun vs H Q E h => ?_) (fun cdv A outer s H vs Q E hr h => ?_)
  · obtain ⟨v1, v2, d1, d2, rfl, _⟩ := h
    rfl
  · obtain ⟨v1, v2, d1, d2, rfl, h1, h2, q1, q2, q3⟩ := h
    have hr1 : Room 1 _ := hr.mono (by decide)
    refine ⟨_, pss_cons (ps_expr (pe_call G1 hr (by rfl) g1 k1 b1 .nil (passes_call (E := E) (takes_of rfl rfl rfl rfl) (fun _ _ _ _ h => h)) (pa_cons (pv 0) pa_nil)))
      (pss_cons (ps_expr (pe_call G2 hr (by rfl) g2 k2 b2 .nil (passes_call (E := E) (takes_of rfl rfl rfl rfl) (fun _ _ _ _ h => h)) (pa_cons (pv 1) pa_nil)))
      (pss_cons (ps_asg (pv 0) (pg_tup rfl (pgs_cons (pg_name (i := 2) scK.nd rfl (Or.inl rfl)) (pgs_cons (pg_name (i := 3) scK.nd rfl (Or.inl rfl)) pgs_nil))))
      (pss_one (ps_ret (pe_and (pe_cmpR op_le (pv 2) (pv 1) (nomark _)) (pe_one (pe_call G3 hr1 (by rfl) g3 k3 b3 .nil pass0 (pa_cons (pv 3) (pa_cons (pv 1) pa_nil))))))))), ?_⟩
    refine ⟨_, rfl, v1, d1, rfl, h1, fun hb => ?_, q2⟩
    refine ⟨_, rfl, v2, d2, rfl, h2, fun hv => ?_, q3 hb⟩
    obtain ⟨ww, rfl, w0, w1⟩ := winB_inv hb
    obtain ⟨n, rfl, n0⟩ := verB_inv hv
    have q := q1 ww n hb hv rfl rfl
    obtain ⟨t, rfl, hw⟩ := win_at h1
    cases h2
    refine ⟨_, rfl, t, _, rfl, SqT.of hw, rfl, _, _, rfl, _, _, rfl, rfl, ?_⟩
    refine ⟨_, rfl, _, rfl, _, _, rfl, rfl, _, rfl, ?_⟩
    by_cases e : ww.1 ≤ n
    · rw [decide_eq_true e]
      refine iteT ⟨_, rfl, _, rfl, ww.2, n, rfl, ?_⟩
      have e2 : contW ww n = reach ww.2 n := by simp [contW, e]
      rw [e2] at q
      exact q
    · rw [decide_eq_false e]
      have e2 : contW ww n = false := by simp [contW, e]
      rw [e2] at q
      exact iteF q

theorem scH : FnScope ["first", "second", "first_low", "first_high", "second_low", "second_high"] ["first", "second"] (defScope sRises) :=
  ⟨rfl, rfl, rfl, by decide +kernel, rfl, by decide +kernel, by decide +kernel⟩
theorem ok_rises {f f1 f3 CW : Addr} {fd fd1 fd3 : FuncData} (F : Fun K "rises" "rises" sRises f fd)
    (G1 : FnOk P w K mg base (L2.CX P w) 3 f1 fd1 ["value"] (spReqX winB CW)) (k1 : PySem.W.keepIn K (.ref f1) = true) (b1 : Binds K fd1 ["value"] []) (g1 : mg "require_window" = some (.ref f1))
    (G3 : FnOk P w K mg base CX0 1 f3 fd3 ["high", "version"] spReach) (k3 : PySem.W.keepIn K (.ref f3) = true) (b3 : Binds K fd3 ["high", "version"] []) (g3 : mg "reaches" = some (.ref f3)) :
    FnOk P w K mg base (L2.CX P w) 4 f fd ["first", "second"] (spRises CW) := by
  refine F.okX scH (fun vs H Q E h => ?_) (fun cdv A outer s H vs Q E hr h => ?_)
  · obtain ⟨v1, v2, d1, d2, rfl, _⟩ := h
    rfl
  · obtain ⟨v1, v2, d1, d2, rfl, h1, h2, q1, q2, q3⟩ := h
    have hr1 : Room 1 _ := hr.mono (by decide)
    refine ⟨_, pss_cons (ps_expr (pe_call G1 hr (by rfl) g1 k1 b1 .nil (passes_call (E := E) (takes_of rfl rfl rfl rfl) (fun _ _ _ _ h => h)) (pa_cons (pv 0) pa_nil)))
      (pss_cons (ps_expr (pe_call G1 hr (by rfl) g1 k1 b1 .nil (passes_call (E := E) (takes_of rfl rfl rfl rfl) (fun _ _ _ _ h => h)) (pa_cons (pv 1) pa_nil)))
      (pss_cons (ps_asg (pv 0) (pg_tup rfl (pgs_cons (pg_name (i := 2) scH.nd rfl (Or.inl rfl)) (pgs_cons (pg_name (i := 3) scH.nd rfl (Or.inl rfl)) pgs_nil))))
      (pss_cons (ps_asg (pv 1) (pg_tup rfl (pgs_cons (pg_name (i := 4) scH.nd rfl (Or.inl rfl)) (pgs_cons (pg_name (i := 5) scH.nd rfl (Or.inl rfl)) pgs_nil))))
      (pss_cons (ps_if (pt_cmpR op_lt (pv 4) (pv 2) (nomark _)) (pss_one (ps_ret pe_bl)) pss_nil)
      (pss_cons (ps_if (pt_cmp (pc_isN (pv 3))) (pss_one (ps_ret (pe_cmp (pc_isN (pv 5))))) pss_nil)
      (pss_one (ps_ret (pe_call G3 hr1 (by rfl) g3 k3 b3 .nil pass0 (pa_cons (pv 5) (pa_cons (pv 3) pa_nil)))))))))), ?_⟩
    refine ⟨_, rfl, v1, d1, rfl, h1, fun hb1 => ?_, q2⟩
    refine ⟨_, rfl, v2, d2, rfl, h2, fun hb2 => ?_, q3 hb1⟩
    obtain ⟨a, rfl, a0, a1⟩ := winB_inv hb1
    obtain ⟨b, rfl, b0, b1'⟩ := winB_inv hb2
    have q := q1 a b hb1 hb2 rfl rfl
    obtain ⟨t, rfl, ha⟩ := win_at h1
    obtain ⟨u, rfl, hb⟩ := win_at h2
    refine ⟨_, rfl, t, _, rfl, SqT.of ha, rfl, _, _, rfl, _, _, rfl, rfl, ?_⟩
    refine ⟨_, rfl, u, _, rfl, SqT.of hb, rfl, _, _, rfl, _, _, rfl, rfl, ?_⟩
    refine ⟨_, rfl, _, rfl, _, _, rfl, rfl, _, rfl, ?_⟩
    by_cases e : b.1 < a.1
    · rw [decide_eq_true e]
      have e2 : risW a b = false := by simp [risW, e]
      rw [e2] at q
      exact iteT q
    · rw [decide_eq_false e]
      refine iteF ?_
      refine ⟨_, rfl, _, rfl, ?_⟩
      obtain ⟨al, ah⟩ := a
      obtain ⟨bl, bh⟩ := b
      have e' : ¬ bl < al := e
      cases ah with
      | none =>
        refine iteT ⟨_, rfl, ?_⟩
        have e2 : risW (al, none) (bl, bh) = decide (hV bh = .non) := by
          cases bh <;> simp [risW, e', hV]
        rw [e2] at q
        exact q
      | some x =>
        refine iteF ⟨_, rfl, _, rfl, bh, x, rfl, ?_⟩
        have e2 : risW (al, some x) (bl, bh) = reach bh x := by simp [risW, e']
        rw [e2] at q
        exact q

theorem scLV : FnScope ["_law_value"] ["_law_value"] (defScope sLIV) :=
  ⟨rfl, rfl, rfl, by decide +kernel, rfl, by decide +kernel, by decide +kernel⟩
theorem ok_liv {f : Addr} {fd : FuncData} (F : Fun K "_law_is_version" "_law_is_version" sLIV f fd) (T : Txt mg) :
    FnOk P w K mg base CX0 1 f fd ["_law_value"] (spB verB) := by
  refine F.ok scLV (fun vs H Q E h => ?_) (fun cdv A outer s H vs Q E hr h => ?_)
  · obtain ⟨v, d, rfl, _⟩ := h
    rfl
  · obtain ⟨v, d, rfl, hd, q0⟩ := h
    refine ⟨_, pss_one (ps_ret (pe_and (pe_callB call_isi (by rfl) T.isi (by decide +kernel) (pa_cons (pv 0) (pa_cons (pe_bltn (v := .ty "int") (by rfl) T.int (by decide +kernel) rfl) pa_nil)))
      (pe_and (pe_not (pe_callB call_isi (by rfl) T.isi (by decide +kernel) (pa_cons (pv 0) (pa_cons (pe_bltn (v := .ty "bool") (by rfl) T.bool (by decide +kernel) rfl) pa_nil))))
        (pe_one (pe_cmpR op_ge (pv 0) pe_int (nomark _)))))), ?_⟩
    have ty := hd.ty (K := K)
    refine ⟨_, rfl, _, _, _, _, _, rfl, .ty _, ty, kInt d, _, rfl, ?_⟩
    cases hd with
    | int i => exact iteT ⟨_, rfl, _, _, _, _, _, rfl, .ty _, ty, kBool _, _, rfl, _, rfl, iteT ⟨_, rfl, _, _, rfl, rfl, q0⟩⟩
    | bl b => exact iteT ⟨_, rfl, _, _, _, _, _, rfl, .ty _, ty, kBool _, _, rfl, _, rfl, iteF q0⟩
    | non => exact iteF q0
    | str i => exact iteF q0
    | lst n h t => exact iteF q0
    | tup h t => exact iteF q0
    | dic h t => exact iteF q0
theorem scLW : FnScope ["_law_value"] ["_law_value"] (defScope sLIW) :=
  ⟨rfl, rfl, rfl, by decide +kernel, rfl, by decide +kernel, by decide +kernel⟩
theorem ok_liw {f f1 : Addr} {fd fd1 : FuncData} (F : Fun K "_law_is_window" "_law_is_window" sLIW f fd) (T : Txt mg)
    (G1 : FnOk P w K mg base CX0 1 f1 fd1 ["_law_value"] (spB verB)) (k1 : PySem.W.keepIn K (.ref f1) = true) (b1 : Binds K fd1 ["_law_value"] []) (g1 : mg "_law_is_version" = some (.ref f1)) :
    FnOk P w K mg base CX0 2 f fd ["_law_value"] (spB winB) := by
  refine F.ok scLW (fun vs H Q E h => ?_) (fun cdv A outer s H vs Q E hr h => ?_)
  · obtain ⟨v, d, rfl, _⟩ := h
    rfl
  · obtain ⟨v, d, rfl, hd, q⟩ := h
    refine ⟨_, pss_cons (ps_if (PW.pt (pw_or (pt_not (pt_val (pe_callB call_isi (by rfl) T.isi (by decide +kernel) (pa_cons (pv 0) (pa_cons (pe_bltn (v := .ty "tuple") (by rfl) T.tuple (by decide +kernel) rfl) pa_nil)))))
          (pw_or (pt_cmpR op_ne (pe_callB call_len_seq (by rfl) T.len PySem.boot_len (pa_cons (pv 0) pa_nil)) pe_int (nomark _))
            (pw_or1 (pt_not (pt_val (pe_call G1 hr (by rfl) g1 k1 b1 .nil pass0 (pa_cons (pe_ix ix_tup (pv 0) pe_int (fun _ _ => rfl)) pa_nil))))))))
        (pss_one (ps_ret pe_bl)) pss_nil)
      (pss_one (ps_ret (pe_or (pe_cmp (pc_isN (pe_ix ix_tup (pv 0) pe_int (fun _ _ => rfl)))) (pe_one (pe_and (pe_call G1 hr (by rfl) g1 k1 b1 .nil pass0 (pa_cons (pe_ix ix_tup (pv 0) pe_int (fun _ _ => rfl)) pa_nil))
        (pe_one (pe_cmpR op_le (pe_ix ix_tup (pv 0) pe_int (fun _ _ => rfl)) (pe_ix ix_tup (pv 0) pe_int (fun _ _ => rfl)) (nomark _)))))))), ?_⟩
    have ty := hd.ty (K := K)
    refine ⟨_, rfl, _, _, _, _, _, rfl, .ty _, ty, kTuple d, _, rfl, ?_⟩
    cases hd with
    | @tup a xs ds h t =>
      refine iteF ?_
      refine ⟨_, rfl, a, _, rfl, .inr (SqT.of h), rfl, _, rfl, ?_⟩
      match xs, ds, t with
      | [x, y], [dx, dy], .cons hx (.cons hy .nil) =>
        refine iteF ?_
        refine ⟨_, rfl, a, _, _, _, rfl, rfl, SqT.of h, rfl, x, dx, rfl, hx, _, rfl, ?_⟩
        cases hb : verB dx with
        | false =>
          have e : winB (.tuple [dx, dy]) = false := by simp [winB, hb]
          rw [e] at q
          exact iteT q
        | true =>
          refine iteF ?_
          refine ⟨_, rfl, a, _, _, _, rfl, rfl, SqT.of h, rfl, _, rfl, ?_⟩
          cases hx with
          | int l =>
            cases hy with
            | non => exact iteT (by simpa [winB, hb, isNone] using q)
            | int z =>
              refine iteF ?_
              refine ⟨_, rfl, a, _, _, _, rfl, rfl, SqT.of h, rfl, _, _, rfl, .int z, _, rfl, ?_⟩
              cases hz : verB (.int z) with
              | false =>
                have e : winB (.tuple [.int l, .int z]) = false := by simp [winB, hz, isNone]
                rw [e] at q
                exact iteF q
              | true =>
                refine iteT ⟨_, rfl, a, _, _, _, rfl, rfl, SqT.of h, rfl, _, rfl, a, _, _, _, rfl, rfl, SqT.of h, rfl, _, _, rfl, rfl, ?_⟩
                have e : winB (.tuple [.int l, .int z]) = decide (l ≤ z) := by simp [winB, hb, hz, isNone, geB]
                rw [e] at q
                exact q
            | bl z => exact iteF ⟨_, rfl, a, _, _, _, rfl, rfl, SqT.of h, rfl, _, _, rfl, .bl z, _, rfl, iteF (by simpa [winB, verB, isNone] using q)⟩
            | str z => exact iteF ⟨_, rfl, a, _, _, _, rfl, rfl, SqT.of h, rfl, _, _, rfl, .str z, _, rfl, iteF (by simpa [winB, verB, isNone] using q)⟩
            | lst n2 h2 t2 => exact iteF ⟨_, rfl, a, _, _, _, rfl, rfl, SqT.of h, rfl, _, _, rfl, .lst n2 h2 t2, _, rfl, iteF (by simpa [winB, verB, isNone] using q)⟩
            | tup h2 t2 => exact iteF ⟨_, rfl, a, _, _, _, rfl, rfl, SqT.of h, rfl, _, _, rfl, .tup h2 t2, _, rfl, iteF (by simpa [winB, verB, isNone] using q)⟩
            | dic h2 t2 => exact iteF ⟨_, rfl, a, _, _, _, rfl, rfl, SqT.of h, rfl, _, _, rfl, .dic h2 t2, _, rfl, iteF (by simpa [winB, verB, isNone] using q)⟩
          | _ => simp [verB] at hb
      | [], [], .nil => exact iteT (iteT q)
      | [x], [dx], .cons hx .nil => exact iteT (iteT q)
      | x :: y :: z :: r, dx :: dy :: dz :: dr, .cons hx (.cons hy (.cons hz t)) =>
        have e : decide (V.int ((x :: y :: z :: r).length : Nat) = V.int 2) = false := by
          apply decide_eq_false
          intro z
          have := V.int.inj z
          simp only [List.length_cons] at this
          omega
        rw [e]
        exact iteT (iteT q)
    | int i => exact iteT (iteT q)
    | bl b => exact iteT (iteT q)
    | non => exact iteT (iteT q)
    | str i => exact iteT (iteT q)
    | lst n h t => exact iteT (iteT q)
    | dic h t => exact iteT (iteT q)
end
end N2
namespace N2
open PySem L2 G N4
theorem mk {H : Hp} {p : Addr} {o : HO} (h : H p = none) : ∃ J : Hp, upd H p o = J ∧ Same H J ∧ J p = some o := ⟨_, rfl, new_same h, upd_same⟩
theorem e40 : (10 : Int) ^ (40 : Int).toNat = 10000000000000000000000000000000000000000 := by decide +kernel
/-- a right window below B -/
def Wb (B : Int) (w : Wn) : Prop := 0 ≤ w.1 ∧ w.1 < B ∧ ∀ x, w.2 = some x → w.1 ≤ x ∧ x < B
theorem wb0 {B l : Int} (h0 : 0 ≤ l) (h1 : l < B) : Wb B (l, none) := ⟨h0, h1, fun x e => by cases e⟩
theorem wb1 {B l h : Int} (h0 : 0 ≤ l) (h1 : l ≤ h) (h2 : h < B) : Wb B (l, some h) := ⟨h0, Int.lt_of_le_of_lt h1 h2, fun x e => by cases e; exact ⟨h1, h2⟩⟩
def spWind : Sp := fun vs H Q _ => ∃ r : Addr, vs = [.ref r] ∧ Rng H r ∧
  ∀ (t : Addr) (w : Wn) (H' : Hp), Ext r H H' → Rng H' r → WinAt H' t w → Wb 30000000000000000000000000000000000000000 w → Q (.ref t) H'
def spNear : Sp := fun vs H Q _ => ∃ (r t : Addr) (w : Wn), vs = [.ref r, .ref t] ∧ Rng H r ∧ WinAt H t w ∧ Wb 30000000000000000000000000000000000000000 w ∧
  ∀ (t' : Addr) (w' : Wn) (H' : Hp), Ext r H H' → Rng H' r → WinAt H' t' w' → Wb 30000000000000000000000000000000000000010 w' → Q (.ref t') H'
/-- what repr is asked of, and so the two parts of a pair -/
def Hd (n k : Nat) (d : PyData) : Prop := Ok3 n k d ∧ ∀ a b, d = .tuple [a, b] → Ok3 n k a ∧ Ok3 n k b
def spChg : Sp := fun vs H Q _ => ∃ (r : Addr) (v : V) (d : PyData) (n k : Nat), vs = [.ref r, v] ∧ Rng H r ∧ Da (hide r H) v d ∧ Hd n k d ∧ 60 ≤ n ∧ 2 ≤ k ∧
  ∀ (v' : V) (d' : PyData) (H' : Hp), Ext r H H' → Rng H' r → Da (hide r H') v' d' → Hd (3 * n + 9) (k + 1) d' → Q v' H'
theorem Hd.mono {n k n' k' : Nat} {d : PyData} (h : Hd n k d) (hn : n ≤ n') (hk : k ≤ k') : Hd n' k' d :=
  ⟨h.1.mono hn hk, fun a b e => ⟨(h.2 a b e).1.mono hn hk, (h.2 a b e).2.mono hn hk⟩⟩
theorem odd3 {n k : Nat} {d : PyData} (h : ok3B n k d = true) (ne : ∀ a b, d ≠ .tuple [a, b]) : Ok3 n k d ∧ ∀ a b, d ≠ .tuple [a, b] := ⟨ok3_by h, ne⟩
section
variable {n k : Nat} {a b c : PyData}
theorem two (ha : Ok3 n k a) (hb : Ok3 n k b) : ∀ d ∈ [a, b], Ok3 n k d := by
  intro d hd
  simp only [List.mem_cons, List.not_mem_nil, or_false] at hd
  rcases hd with rfl | rfl
  · exact ha
  · exact hb
theorem hd2 (ha : Ok3 n k a) (hb : Ok3 n k b) : Hd (3 * n + 9) (k + 1) (.tuple [a, b]) := by
  refine ⟨(ok3_tup (two ha hb)).mono (by simp only [List.length_cons, List.length_nil]; omega) (Nat.le_refl _), fun x y e => ?_⟩
  simp only [PyData.tuple.injEq, List.cons.injEq, and_true] at e
  obtain ⟨rfl, rfl⟩ := e
  exact ⟨ha.mono (by omega) (by omega), hb.mono (by omega) (by omega)⟩
theorem hdL2 (ha : Ok3 n k a) (hb : Ok3 n k b) : Hd (3 * n + 9) (k + 1) (.list [a, b]) :=
  ⟨(ok3_list (two ha hb)).mono (by simp only [List.length_cons, List.length_nil]; omega) (Nat.le_refl _), fun x y e => by cases e⟩
theorem hdT3 (ha : Ok3 n k a) (hb : Ok3 n k b) (hc : Ok3 n k c) : Hd (3 * n + 9) (k + 1) (.tuple [a, b, c]) := by
  have all : ∀ d ∈ [a, b, c], Ok3 n k d := by
    intro d hd
    simp only [List.mem_cons, List.not_mem_nil, or_false] at hd
    rcases hd with rfl | rfl | rfl
    · exact ha
    · exact hb
    · exact hc
  exact ⟨(ok3_tup all).mono (by simp only [List.length_cons, List.length_nil]; omega) (Nat.le_refl _), fun x y e => by simp at e⟩
theorem hdT1 (ha : Ok3 n k a) : Hd (3 * n + 9) (k + 1) (.tuple [a]) := by
  have all : ∀ d ∈ [a], Ok3 n k d := by
    intro d hd
    simp only [List.mem_cons, List.not_mem_nil, or_false] at hd
    subst hd
    exact ha
  exact ⟨(ok3_tup all).mono (by simp only [List.length_cons, List.length_nil]; omega) (Nat.le_refl _), fun x y e => by simp at e⟩
theorem hdO (ha : Ok3 n k a) (ne : ∀ x y, a ≠ .tuple [x, y]) : Hd (3 * n + 9) (k + 1) a := ⟨ha.mono (by omega) (by omega), fun x y e => absurd e (ne x y)⟩
end
section
variable {P : Program} {w : World} {K : PySem.W.Frag} {mg : Str → Option Value} {base : Heap}
theorem scWi : FnScope ["_law_rng_here", "_law_low"] ["_law_rng_here"] (defScope sWindow) :=
  ⟨rfl, rfl, rfl, by decide +kernel, rfl, by decide +kernel, by decide +kernel⟩
theorem ok_wind {f fD : Addr} {fd fdD : FuncData} (F : Fun K "_law_window" "_law_window" sWindow f fd)
    (GD : FnOk P w K mg base CX0 1 fD fdD ["_law_rng_here", "_law_many"] spDraw) (kD : PySem.W.keepIn K (.ref fD) = true) (bD : Binds K fdD ["_law_rng_here", "_law_many"] []) (gD : mg "_law_draw" = some (.ref fD)) :
    FnOk P w K mg base CX0 2 f fd ["_law_rng_here"] spWind := by
  refine F.ok scWi (fun vs H Q E h => ?_) (fun cdv A outer s H vs Q E hrD h => ?_)
  · obtain ⟨r, rfl, _⟩ := h
    rfl
  · obtain ⟨r, rfl, R, q⟩ := h
    refine ⟨_, pss_cons (ps_set (i := 1) scWi.nd rfl (Or.inl rfl) (pe_ix ix_list (pe_lst (pa_cons pe_int (pa_cons (pe_call GD hrD (by rfl) gD kD bD .nil pass0 (pa_cons (pv 0) (pa_cons pe_int pa_nil))) (pa_cons (pe_call GD hrD (by rfl) gD kD bD .nil pass0 (pa_cons (pv 0) (pa_cons (pe_op op_pow pe_int pe_int) pa_nil))) pa_nil)))) (pe_call GD hrD (by rfl) gD kD bD .nil pass0 (pa_cons (pv 0) (pa_cons pe_int pa_nil))) (fun _ _ => rfl)))
      (pss_one (ps_ret (pe_tup (pa_cons (pv 1) (pa_cons (pe_ix ix_list (pe_lst (pa_cons pe_non (pa_cons (pv 1) (pa_cons (pe_op op_add (pe_op op_add (pv 1) pe_int) (pe_call GD hrD (by rfl) gD kD bD .nil pass0 (pa_cons (pv 0) (pa_cons pe_int pa_nil)))) (pa_cons (pe_op op_add (pv 1) (pe_call GD hrD (by rfl) gD kD bD .nil pass0 (pa_cons (pv 0) (pa_cons (pe_op op_pow pe_int pe_int) pa_nil)))) pa_nil))))) (pe_call GD hrD (by rfl) gD kD bD .nil pass0 (pa_cons (pv 0) (pa_cons pe_int pa_nil))) (fun _ _ => rfl)) pa_nil))))), ?_⟩
    refine ⟨_, rfl, r, _, rfl, R, by decide, by decide, fun d1 H1 E1 R1 a0 a1 => ?_⟩
    refine ⟨_, rfl, _, _, rfl, rfl, ⟨by decide, by decide, by decide⟩, r, _, rfl, R1, by rw [e40]; decide, by rw [e40]; decide, fun d2 H2 E2 R2 b0 b1 => ?_⟩
    rw [e40] at b1
    refine ⟨(by show 3 ≤ sizeLine; decide), fun p hp => ?_⟩
    refine ⟨_, rfl, r, _, rfl, R2.new hp, by decide, by decide, fun d3 H3 E3 R3 f0 f1 => ?_⟩
    have k3 := E3 _ _ (R2.free hp).symm upd_same
    obtain ⟨v, hv, hm⟩ := at_mem (xs := [V.int 0, V.int d1, V.int d2]) f0 (by show d3 < 3; omega)
    obtain ⟨l, rfl, l0, l1⟩ : ∃ x : Int, v = .int x ∧ 0 ≤ x ∧ x < 10000000000000000000000000000000000000000 := by
      simp only [List.mem_cons, List.not_mem_nil, or_false] at hm
      rcases hm with rfl | rfl | rfl
      all_goals exact ⟨_, rfl, by omega, by omega⟩
    refine ⟨p, _, _, _, rfl, rfl, SqL.of k3, hv, ?_⟩
    refine ⟨_, rfl, _, rfl, _, rfl, _, _, rfl, rfl, _, rfl, r, _, rfl, R3, by decide, by decide, fun d4 H4 E4 R4 g0 g1 => ?_⟩
    refine ⟨_, _, rfl, rfl, _, rfl, _, rfl, _, _, rfl, rfl, ⟨by decide, by decide, by decide⟩, r, _, rfl, R4, by rw [e40]; decide, by rw [e40]; decide, fun d5 H5 E5 R5 m0 m1 => ?_⟩
    rw [e40] at m1
    refine ⟨_, _, rfl, rfl, (by show 4 ≤ sizeLine; decide), fun p6 hp6 => ?_⟩
    refine ⟨_, rfl, r, _, rfl, R5.new hp6, by decide, by decide, fun d7 H7 E7 R7 n0 n1 => ?_⟩
    have k7 := E7 _ _ (R5.free hp6).symm upd_same
    obtain ⟨x, hx, hmx⟩ := at_mem (xs := [V.non, V.int l, V.int (l + 1 + d4), V.int (l + d5)]) n0 (by show d7 < 4; omega)
    obtain ⟨o, rfl, ho⟩ : ∃ o : Option Int, x = hV o ∧ ∀ y, o = some y → l ≤ y ∧ y < 30000000000000000000000000000000000000000 := by
      simp only [List.mem_cons, List.not_mem_nil, or_false] at hmx
      rcases hmx with rfl | rfl | rfl | rfl
      · exact ⟨none, rfl, fun y e => by cases e⟩
      · exact ⟨some l, rfl, fun y e => by cases e; omega⟩
      · exact ⟨some (l + 1 + d4), rfl, fun y e => by cases e; omega⟩
      · exact ⟨some (l + d5), rfl, fun y e => by cases e; omega⟩
    refine ⟨p6, _, _, _, rfl, rfl, SqL.of k7, hx, (by show 2 ≤ sizeLine; decide), fun t ht => ?_⟩
    exact q t (l, o) _ ((((((((E1.trans E2).trans (Ext.new hp)).trans E3).trans E4).trans E5).trans (Ext.new hp6)).trans E7).trans (Ext.new ht)) (R7.new ht) upd_same
      ⟨l0, by show l < 30000000000000000000000000000000000000000; omega, ho⟩
theorem scNe : FnScope ["_law_rng_here", "_law_window_here", "_law_low", "_law_high", "_law_some"] ["_law_rng_here", "_law_window_here"] (defScope sNear) :=
  ⟨rfl, rfl, rfl, by decide +kernel, rfl, by decide +kernel, by decide +kernel⟩
theorem ok_near {f fD fC : Addr} {fd fdD fdC : FuncData} (F : Fun K "_law_near" "_law_near" sNear f fd) (T : Txt mg)
    (GD : FnOk P w K mg base CX0 1 fD fdD ["_law_rng_here", "_law_many"] spDraw) (kD : PySem.W.keepIn K (.ref fD) = true) (bD : Binds K fdD ["_law_rng_here", "_law_many"] []) (gD : mg "_law_draw" = some (.ref fD))
    (GC : FnOk P w K mg base CX0 2 fC fdC ["_law_rng_here", "_law_options"] (spChoice K)) (kC : PySem.W.keepIn K (.ref fC) = true) (bC : Binds K fdC ["_law_rng_here", "_law_options"] []) (gC : mg "_law_choice" = some (.ref fC)) :
    FnOk P w K mg base CX0 3 f fd ["_law_rng_here", "_law_window_here"] spNear := by
  refine F.ok scNe (fun vs H Q E h => ?_) (fun cdv A outer s H vs Q E hr h => ?_)
  · obtain ⟨r, t, ww, rfl, _⟩ := h
    rfl
  · obtain ⟨r, t, ww, rfl, R0, ht, wb, q⟩ := h
    have hrD : Room 1 _ := hr.mono (by decide)
    refine ⟨_, pss_cons (ps_asg (pv 1) (pg_tup rfl (pgs_cons (pg_name (i := 2) scNe.nd rfl (Or.inl rfl)) (pgs_cons (pg_name (i := 3) scNe.nd rfl (Or.inl rfl)) pgs_nil))))
      (pss_cons (ps_if (pt_cmp (pc_isN (pv 3))) (pss_one (ps_ret (pe_ix ix_list (pe_lst (pa_cons (pe_tup (pa_cons (pv 2) (pa_cons pe_non pa_nil))) (pa_cons (pe_tup (pa_cons (pe_op op_add (pv 2) pe_int) (pa_cons pe_non pa_nil))) (pa_cons (pe_tup (pa_cons (pe_callB (call_max2 rfl) (by rfl) T.max (by decide +kernel) (pa_cons pe_int (pa_cons (pe_op op_sub (pv 2) pe_int) pa_nil))) (pa_cons pe_non pa_nil))) (pa_cons (pe_tup (pa_cons (pv 2) (pa_cons (pe_op op_add (pv 2) pe_int) pa_nil))) pa_nil))))) (pe_call GD hrD (by rfl) gD kD bD .nil pass0 (pa_cons (pv 0) (pa_cons pe_int pa_nil))) (fun _ _ => rfl)))) pss_nil)
      (pss_cons (ps_set (i := 4) scNe.nd rfl (Or.inl rfl) (pe_lst (pa_cons (pe_tup (pa_cons (pv 2) (pa_cons (pv 3) pa_nil))) (pa_cons (pe_tup (pa_cons (pv 2) (pa_cons (pe_op op_add (pv 3) pe_int) pa_nil))) (pa_cons (pe_tup (pa_cons (pv 2) (pa_cons (pe_callB (call_max2 rfl) (by rfl) T.max (by decide +kernel) (pa_cons (pv 2) (pa_cons (pe_op op_sub (pv 3) pe_int) pa_nil))) pa_nil))) (pa_cons (pe_tup (pa_cons (pe_callB (call_max2 rfl) (by rfl) T.max (by decide +kernel) (pa_cons pe_int (pa_cons (pe_op op_sub (pv 2) pe_int) pa_nil))) (pa_cons (pv 3) pa_nil))) pa_nil))))))
      (pss_one (ps_ret (pe_call GC hr (by rfl) gC kC bC .nil pass0 (pa_cons (pv 0) (pa_cons (pe_op op_cat (pv 4) (pe_lst (pa_cons (pe_tup (pa_cons (pe_callB (call_min2 rfl) (by rfl) T.min (by decide +kernel) (pa_cons (pe_op op_add (pv 2) pe_int) (pa_cons (pv 3) pa_nil))) (pa_cons (pv 3) pa_nil))) (pa_cons (pe_tup (pa_cons (pv 2) (pa_cons pe_non pa_nil))) (pa_cons (pe_tup (pa_cons (pv 3) (pa_cons (pv 3) pa_nil))) (pa_cons (pe_tup (pa_cons (pe_op op_add (pv 2) pe_int) (pa_cons (pe_op op_add (pv 3) pe_int) pa_nil))) pa_nil)))))) pa_nil))))))), ?_⟩
    obtain ⟨l, o⟩ := ww
    obtain ⟨l0, l1, lh⟩ := wb
    have l0 : 0 ≤ l := l0
    have l1 : l < 30000000000000000000000000000000000000000 := l1
    refine ⟨_, rfl, t, _, rfl, SqT.of ht, rfl, _, _, rfl, _, _, rfl, rfl, ?_⟩
    refine ⟨_, rfl, _, rfl, ?_⟩
    cases o with
    | none =>
      refine iteT ?_
      refine ⟨_, rfl, (by show 2 ≤ sizeLine; decide), fun pa1 hpa1 => ?_⟩
      obtain ⟨Ja1, ja1, Sa1, Ua1, Ra1, ka1, ga1⟩ := stp (o := .tup ([.int l, .non] : List V)) R0 hpa1
      rw [ja1]
      refine ⟨_, rfl, _, _, rfl, rfl, (by show 2 ≤ sizeLine; decide), fun pa2 hpa2 => ?_⟩
      obtain ⟨Ja2, ja2, Sa2, Ua2, Ra2, ka2, ga2⟩ := stp (o := .tup ([.int (l + 1), .non] : List V)) Ra1 hpa2
      rw [ja2]
      refine ⟨_, rfl, _, _, rfl, rfl, _, _, rfl, (by show 2 ≤ sizeLine; decide), fun pa3 hpa3 => ?_⟩
      obtain ⟨Ja3, ja3, Sa3, Ua3, Ra3, ka3, ga3⟩ := stp (o := .tup ([.int (if l - 1 > 0 then l - 1 else 0), .non] : List V)) Ra2 hpa3
      rw [ja3]
      refine ⟨_, rfl, _, rfl, _, _, rfl, rfl, (by show 2 ≤ sizeLine; decide), fun pa4 hpa4 => ?_⟩
      obtain ⟨Ja4, ja4, Sa4, Ua4, Ra4, ka4, ga4⟩ := stp (o := .tup ([.int l, .int (l + 7)] : List V)) Ra3 hpa4
      rw [ja4]
      refine ⟨(by show 4 ≤ sizeLine; decide), fun pa5 hpa5 => ?_⟩
      obtain ⟨Ja5, ja5, Sa5, Ua5, Ra5, ka5, ga5⟩ := stp (o := .lst ([.ref pa1, .ref pa2, .ref pa3, .ref pa4] : List V)) Ra4 hpa5
      rw [ja5]
      have mem : ∀ v ∈ ([.ref pa1, .ref pa2, .ref pa3, .ref pa4] : List V), ∃ (t : Addr) (w : Wn), v = .ref t ∧ WinAt Ja5 t w ∧ Wb 30000000000000000000000000000000000000010 w :=
        (List.forall_mem_cons.2 ⟨⟨_, (l, none), rfl, (Sa2.trans (Sa3.trans (Sa4.trans (Sa5)))) _ _ ka1, by first | (exact wb0 (by first | omega | (split <;> omega)) (by first | omega | (split <;> omega))) | exact wb1 (by first | omega | (split <;> omega)) (by first | omega | (split <;> omega) | (split <;> split <;> omega)) (by first | omega | (split <;> omega))⟩,
          (List.forall_mem_cons.2 ⟨⟨_, (l + 1, none), rfl, (Sa3.trans (Sa4.trans (Sa5))) _ _ ka2, by first | (exact wb0 (by first | omega | (split <;> omega)) (by first | omega | (split <;> omega))) | exact wb1 (by first | omega | (split <;> omega)) (by first | omega | (split <;> omega) | (split <;> split <;> omega)) (by first | omega | (split <;> omega))⟩,
          (List.forall_mem_cons.2 ⟨⟨_, (if l - 1 > 0 then l - 1 else 0, none), rfl, (Sa4.trans (Sa5)) _ _ ka3, by first | (exact wb0 (by first | omega | (split <;> omega)) (by first | omega | (split <;> omega))) | exact wb1 (by first | omega | (split <;> omega)) (by first | omega | (split <;> omega) | (split <;> split <;> omega)) (by first | omega | (split <;> omega))⟩,
          (List.forall_mem_cons.2 ⟨⟨_, (l, some (l + 7)), rfl, (Sa5) _ _ ka4, by first | (exact wb0 (by first | omega | (split <;> omega)) (by first | omega | (split <;> omega))) | exact wb1 (by first | omega | (split <;> omega)) (by first | omega | (split <;> omega) | (split <;> split <;> omega)) (by first | omega | (split <;> omega))⟩,
          (fun v hv => by cases hv)⟩)⟩)⟩)⟩)
      refine ⟨_, rfl, r, _, rfl, Ra5, by decide, by decide, fun dd H3 E3 R3 f0 f1 => ?_⟩
      have k3 := E3 _ _ (Ra5.ne ka5 (fun _ _ z => by cases z)) ka5
      obtain ⟨v, hv, hm⟩ := at_mem (xs := ([.ref pa1, .ref pa2, .ref pa3, .ref pa4] : List V)) f0 (by show dd < 4; omega)
      obtain ⟨t', w', rfl, wt, wb'⟩ := mem v hm
      refine ⟨pa5, _, _, _, rfl, rfl, SqL.of k3, hv, ?_⟩
      exact q t' w' H3 ((Ext.of (Sa1.trans (Sa2.trans (Sa3.trans (Sa4.trans (Sa5)))))).trans E3) R3 (E3 _ _ (Ra5.ne wt (fun _ _ z => by cases z)) wt) wb'
    | some h =>
      have lh' := lh h rfl
      have h0 : l ≤ h := lh'.1
      have h1 : h < 30000000000000000000000000000000000000000 := lh'.2
      refine iteF ?_
      refine ⟨_, rfl, _, rfl, (by show 2 ≤ sizeLine; decide), fun pb1 hpb1 => ?_⟩
      obtain ⟨Jb1, jb1, Sb1, Ub1, Rb1, kb1, gb1⟩ := stp (o := .tup ([.int l, hV (some h)] : List V)) R0 hpb1
      rw [jb1]
      refine ⟨_, rfl, _, rfl, _, _, rfl, rfl, (by show 2 ≤ sizeLine; decide), fun pb2 hpb2 => ?_⟩
      obtain ⟨Jb2, jb2, Sb2, Ub2, Rb2, kb2, gb2⟩ := stp (o := .tup ([.int l, .int (h + 1)] : List V)) Rb1 hpb2
      rw [jb2]
      refine ⟨_, rfl, _, rfl, _, rfl, _, _, rfl, rfl, _, _, rfl, (by show 2 ≤ sizeLine; decide), fun pb3 hpb3 => ?_⟩
      obtain ⟨Jb3, jb3, Sb3, Ub3, Rb3, kb3, gb3⟩ := stp (o := .tup ([.int l, .int (if h - 1 > l then h - 1 else l)] : List V)) Rb2 hpb3
      rw [jb3]
      refine ⟨_, rfl, _, _, rfl, rfl, _, _, rfl, _, rfl, (by show 2 ≤ sizeLine; decide), fun pb4 hpb4 => ?_⟩
      obtain ⟨Jb4, jb4, Sb4, Ub4, Rb4, kb4, gb4⟩ := stp (o := .tup ([.int (if l - 1 > 0 then l - 1 else 0), hV (some h)] : List V)) Rb3 hpb4
      rw [jb4]
      refine ⟨(by show 4 ≤ sizeLine; decide), fun pb5 hpb5 => ?_⟩
      obtain ⟨Jb5, jb5, Sb5, Ub5, Rb5, kb5, gb5⟩ := stp (o := .lst ([.ref pb1, .ref pb2, .ref pb3, .ref pb4] : List V)) Rb4 hpb5
      rw [jb5]
      refine ⟨_, rfl, _, rfl, _, rfl, _, _, rfl, rfl, _, rfl, _, _, rfl, _, rfl, (by show 2 ≤ sizeLine; decide), fun pb6 hpb6 => ?_⟩
      obtain ⟨Jb6, jb6, Sb6, Ub6, Rb6, kb6, gb6⟩ := stp (o := .tup ([.int (if h < l + 1 then h else l + 1), hV (some h)] : List V)) Rb5 hpb6
      rw [jb6]
      refine ⟨_, rfl, (by show 2 ≤ sizeLine; decide), fun pb7 hpb7 => ?_⟩
      obtain ⟨Jb7, jb7, Sb7, Ub7, Rb7, kb7, gb7⟩ := stp (o := .tup ([.int l, .non] : List V)) Rb6 hpb7
      rw [jb7]
      refine ⟨_, rfl, _, rfl, (by show 2 ≤ sizeLine; decide), fun pb8 hpb8 => ?_⟩
      obtain ⟨Jb8, jb8, Sb8, Ub8, Rb8, kb8, gb8⟩ := stp (o := .tup ([hV (some h), hV (some h)] : List V)) Rb7 hpb8
      rw [jb8]
      refine ⟨_, rfl, _, _, rfl, rfl, _, rfl, _, _, rfl, rfl, (by show 2 ≤ sizeLine; decide), fun pb9 hpb9 => ?_⟩
      obtain ⟨Jb9, jb9, Sb9, Ub9, Rb9, kb9, gb9⟩ := stp (o := .tup ([.int (l + 1), .int (h + 1)] : List V)) Rb8 hpb9
      rw [jb9]
      refine ⟨(by show 4 ≤ sizeLine; decide), fun pb10 hpb10 => ?_⟩
      obtain ⟨Jb10, jb10, Sb10, Ub10, Rb10, kb10, gb10⟩ := stp (o := .lst ([.ref pb6, .ref pb7, .ref pb8, .ref pb9] : List V)) Rb9 hpb10
      rw [jb10]
      refine ⟨pb5, pb10, _, _, rfl, rfl, (Sb6.trans (Sb7.trans (Sb8.trans (Sb9.trans (Sb10))))) _ _ kb5, kb10, (by show 8 ≤ sizeLine; decide), fun pz hpz => ?_⟩
      obtain ⟨Jz, jz, Sz, Uz, Rz, kz, gz⟩ := stp (o := .lst ([.ref pb1, .ref pb2, .ref pb3, .ref pb4] ++ [.ref pb6, .ref pb7, .ref pb8, .ref pb9] : List V)) Rb10 hpz
      rw [jz]
      have mem : ∀ v ∈ ([.ref pb1, .ref pb2, .ref pb3, .ref pb4, .ref pb6, .ref pb7, .ref pb8, .ref pb9] : List V), ∃ (t : Addr) (w : Wn), v = .ref t ∧ WinAt Jz t w ∧ Wb 30000000000000000000000000000000000000010 w :=
        (List.forall_mem_cons.2 ⟨⟨_, (l, some (h)), rfl, (Sb2.trans (Sb3.trans (Sb4.trans (Sb5.trans (Sb6.trans (Sb7.trans (Sb8.trans (Sb9.trans (Sb10.trans (Sz)))))))))) _ _ kb1, by first | (exact wb0 (by first | omega | (split <;> omega)) (by first | omega | (split <;> omega))) | exact wb1 (by first | omega | (split <;> omega)) (by first | omega | (split <;> omega) | (split <;> split <;> omega)) (by first | omega | (split <;> omega))⟩,
          (List.forall_mem_cons.2 ⟨⟨_, (l, some (h + 1)), rfl, (Sb3.trans (Sb4.trans (Sb5.trans (Sb6.trans (Sb7.trans (Sb8.trans (Sb9.trans (Sb10.trans (Sz))))))))) _ _ kb2, by first | (exact wb0 (by first | omega | (split <;> omega)) (by first | omega | (split <;> omega))) | exact wb1 (by first | omega | (split <;> omega)) (by first | omega | (split <;> omega) | (split <;> split <;> omega)) (by first | omega | (split <;> omega))⟩,
          (List.forall_mem_cons.2 ⟨⟨_, (l, some (if h - 1 > l then h - 1 else l)), rfl, (Sb4.trans (Sb5.trans (Sb6.trans (Sb7.trans (Sb8.trans (Sb9.trans (Sb10.trans (Sz)))))))) _ _ kb3, by first | (exact wb0 (by first | omega | (split <;> omega)) (by first | omega | (split <;> omega))) | exact wb1 (by first | omega | (split <;> omega)) (by first | omega | (split <;> omega) | (split <;> split <;> omega)) (by first | omega | (split <;> omega))⟩,
          (List.forall_mem_cons.2 ⟨⟨_, (if l - 1 > 0 then l - 1 else 0, some (h)), rfl, (Sb5.trans (Sb6.trans (Sb7.trans (Sb8.trans (Sb9.trans (Sb10.trans (Sz))))))) _ _ kb4, by first | (exact wb0 (by first | omega | (split <;> omega)) (by first | omega | (split <;> omega))) | exact wb1 (by first | omega | (split <;> omega)) (by first | omega | (split <;> omega) | (split <;> split <;> omega)) (by first | omega | (split <;> omega))⟩,
          (List.forall_mem_cons.2 ⟨⟨_, (if h < l + 1 then h else l + 1, some (h)), rfl, (Sb7.trans (Sb8.trans (Sb9.trans (Sb10.trans (Sz))))) _ _ kb6, by first | (exact wb0 (by first | omega | (split <;> omega)) (by first | omega | (split <;> omega))) | exact wb1 (by first | omega | (split <;> omega)) (by first | omega | (split <;> omega) | (split <;> split <;> omega)) (by first | omega | (split <;> omega))⟩,
          (List.forall_mem_cons.2 ⟨⟨_, (l, none), rfl, (Sb8.trans (Sb9.trans (Sb10.trans (Sz)))) _ _ kb7, by first | (exact wb0 (by first | omega | (split <;> omega)) (by first | omega | (split <;> omega))) | exact wb1 (by first | omega | (split <;> omega)) (by first | omega | (split <;> omega) | (split <;> split <;> omega)) (by first | omega | (split <;> omega))⟩,
          (List.forall_mem_cons.2 ⟨⟨_, (h, some (h)), rfl, (Sb9.trans (Sb10.trans (Sz))) _ _ kb8, by first | (exact wb0 (by first | omega | (split <;> omega)) (by first | omega | (split <;> omega))) | exact wb1 (by first | omega | (split <;> omega)) (by first | omega | (split <;> omega) | (split <;> split <;> omega)) (by first | omega | (split <;> omega))⟩,
          (List.forall_mem_cons.2 ⟨⟨_, (l + 1, some (h + 1)), rfl, (Sb10.trans (Sz)) _ _ kb9, by first | (exact wb0 (by first | omega | (split <;> omega)) (by first | omega | (split <;> omega))) | exact wb1 (by first | omega | (split <;> omega)) (by first | omega | (split <;> omega) | (split <;> split <;> omega)) (by first | omega | (split <;> omega))⟩,
          (fun v hv => by cases hv)⟩)⟩)⟩)⟩)⟩)⟩)⟩)⟩)
      refine ⟨r, _, _, rfl, Rz, SqL.of kz, Rz.ne kz (fun _ _ z => by cases z), (by show 0 < 8; decide), (by show 8 ≤ 1000; decide), fun v H3 E3 R3 hm => ?_⟩
      obtain ⟨t', w', rfl, wt, wb'⟩ := mem v hm
      exact q t' w' H3 ((Ext.of (Sb1.trans (Sb2.trans (Sb3.trans (Sb4.trans (Sb5.trans (Sb6.trans (Sb7.trans (Sb8.trans (Sb9.trans (Sb10.trans (Sz)))))))))))).trans E3) R3 (E3 _ _ (Rz.ne wt (fun _ _ z => by cases z)) wt) wb'

theorem scCh : FnScope ["_law_rng_here", "_law_value", "_law_odd", "_law_some"] ["_law_rng_here", "_law_value"] (defScope sChanged) :=
  ⟨rfl, rfl, rfl, by decide +kernel, rfl, by decide +kernel, by decide +kernel⟩
theorem ok_chg {f fC : Addr} {fd fdC : FuncData} (F : Fun K "_law_changed" "_law_changed" sChanged f fd) (T : Txt mg)
    (GC : FnOk P w K mg base CX0 2 fC fdC ["_law_rng_here", "_law_options"] (spChoice K)) (kC : PySem.W.keepIn K (.ref fC) = true) (bC : Binds K fdC ["_law_rng_here", "_law_options"] []) (gC : mg "_law_choice" = some (.ref fC)) :
    FnOk P w K mg base CX0 3 f fd ["_law_rng_here", "_law_value"] spChg := by
  refine F.ok scCh (fun vs H Q E h => ?_) (fun cdv A outer s H vs Q E hr h => ?_)
  · obtain ⟨r, v, d, n, k, rfl, _⟩ := h
    rfl
  · obtain ⟨r, v, d, n, k, rfl, R0, hd, hs, n60, k2, q⟩ := h
    refine ⟨_, pss_cons (ps_if (PW.pt (pw_or (pt_not (pt_val (pe_callB call_isi (by rfl) T.isi (by decide +kernel) (pa_cons (pv 1) (pa_cons (pe_bltn (v := .ty "tuple") (by rfl) T.tuple (by decide +kernel) rfl) pa_nil)))))
          (pw_or1 (pt_cmpR op_ne (pe_callB call_len_seq (by rfl) T.len PySem.boot_len (pa_cons (pv 1) pa_nil)) pe_int (nomark _)))))
        (pss_one (ps_ret (pv 1))) pss_nil)
      (pss_cons (ps_set (i := 2) scCh.nd rfl (Or.inl rfl) (pe_call GC hr (by rfl) gC kC bC .nil pass0 (pa_cons (pv 0) (pa_cons (pe_lst (pa_cons pe_non (pa_cons pe_bl (pa_cons pe_bl (pa_cons (pe_un un_neg pe_int) (pa_cons pe_str (pa_cons pe_str (pa_cons pe_str (pa_cons (pe_tup pa_nil) (pa_cons (pe_lstS pa_nil) (pa_cons pe_dnewK (pa_cons (pe_tup (pa_cons pe_int pa_nil)) (pa_cons (pe_un un_neg (pe_op op_pow pe_int pe_int)) (pa_cons pe_int (pa_cons pe_int pa_nil))))))))))))))) pa_nil))))
      (pss_cons (ps_set (i := 3) scCh.nd rfl (Or.inl rfl) (pe_lst (pa_cons (pe_tup (pa_cons (pv 2) (pa_cons (pe_ix ix_tup (pv 1) pe_int (fun _ _ => rfl)) pa_nil))) (pa_cons (pe_tup (pa_cons (pe_ix ix_tup (pv 1) pe_int (fun _ _ => rfl)) (pa_cons (pv 2) pa_nil))) (pa_cons (pe_callTy call_listS (by rfl) T.list (by decide +kernel) (pa_cons (pv 1) pa_nil)) (pa_cons (pe_op op_catT (pv 1) (pe_tup (pa_cons (pv 2) pa_nil))) (pa_cons (pe_slice sl_tup (pv 1) po_none (po_some pe_int)) (pa_cons (pe_rev2 (pv 1)) (pa_cons (pe_tup (pa_cons (pv 1) pa_nil)) (pa_cons (pv 2) pa_nil))))))))))
      (pss_one (ps_ret (pe_call GC hr (by rfl) gC kC bC .nil pass0 (pa_cons (pv 0) (pa_cons (pv 3) pa_nil))))))), ?_⟩
    have out : Q v H := q v d H (Ext.refl r H) R0 hd (hs.mono (by omega) (by omega))
    have ty := (hd.mono (hide_same r H)).ty (K := K)
    refine ⟨_, rfl, _, _, _, _, _, rfl, .ty _, ty, kTuple d, _, rfl, ?_⟩
    cases hd with
    | int i => exact iteT (iteT ⟨_, rfl, out⟩)
    | bl b => exact iteT (iteT ⟨_, rfl, out⟩)
    | non => exact iteT (iteT ⟨_, rfl, out⟩)
    | str i => exact iteT (iteT ⟨_, rfl, out⟩)
    | lst n h t => exact iteT (iteT ⟨_, rfl, out⟩)
    | dic h t => exact iteT (iteT ⟨_, rfl, out⟩)
    | @tup a xs ds h t =>
    have h' := hide_same r H _ _ h
    refine iteF ?_
    refine ⟨_, rfl, a, _, rfl, .inr (SqT.of h'), rfl, _, rfl, ?_⟩
    match xs, ds, t with
    | [], [], .nil => exact iteT ⟨_, rfl, out⟩
    | [x], [dx], .cons hx .nil => exact iteT ⟨_, rfl, out⟩
    | x :: y :: z :: r, dx :: dy :: dz :: dr, .cons hx (.cons hy (.cons hz t)) =>
      have e : decide (V.int ((x :: y :: z :: r).length : Nat) = V.int 2) = false := by
        apply decide_eq_false
        intro z
        have := V.int.inj z
        simp only [List.length_cons] at this
        omega
      rw [e]
      exact iteT ⟨_, rfl, out⟩
    | [x, y], [dx, dy], .cons hx0 (.cons hy0 .nil) =>
    refine iteF ?_
    have oxy := hs.1
    obtain ⟨ox, oy⟩ := hs.2 _ _ rfl
    refine ⟨_, rfl, ?_⟩
    refine ⟨_, rfl, (by show 0 ≤ sizeLine; decide), fun po1 hpo1 => ?_⟩
    obtain ⟨Jo1, jo1, So1, Uo1, Ro1, ko1, go1⟩ := stp (o := .tup ([] : List V)) R0 hpo1
    rw [jo1]
    have do1 : Da (hide r Jo1) (.ref po1) (.tuple []) := Da.tup go1 .nil
    refine ⟨(by show 0 ≤ sizeLine; decide), fun po2 hpo2 npo2 => ?_⟩
    obtain ⟨Jo2, jo2, So2, Uo2, Ro2, ko2, go2⟩ := stp (o := .lst ([] : List V)) Ro1 hpo2
    rw [jo2]
    have do2 : Da (hide r Jo2) (.ref po2) (.list []) := Da.lst npo2 go2 .nil
    refine fun po3 hpo3 => ?_
    obtain ⟨Jo3, jo3, So3, Uo3, Ro3, ko3, go3⟩ := stp (o := .dK ([] : List (Key × V))) Ro2 hpo3
    rw [jo3]
    have do3 : Da (hide r Jo3) (.ref po3) (.dict []) := Da.dic go3 .nil
    refine ⟨(by show 1 ≤ sizeLine; decide), fun po4 hpo4 => ?_⟩
    obtain ⟨Jo4, jo4, So4, Uo4, Ro4, ko4, go4⟩ := stp (o := .tup ([.int 0] : List V)) Ro3 hpo4
    rw [jo4]
    have do4 : Da (hide r Jo4) (.ref po4) (.tuple [.int 0]) := Da.tup go4 (.cons (.int _) .nil)
    refine ⟨_, _, rfl, rfl, ⟨by decide, by decide, by decide⟩, _, rfl, (by show 14 ≤ sizeLine; decide), fun po5 hpo5 => ?_⟩
    obtain ⟨Jo5, jo5, So5, Uo5, Ro5, ko5, go5⟩ := stp (o := .lst ([.non, .bl true, .bl false, .int (-1), .str "", .str "0", .str "1", .ref po1, .ref po2, .ref po3, .ref po4, .int (-(10 ^ (30 : Int).toNat)), .int 0, .int 1] : List V)) Ro4 hpo5
    rw [jo5]
    have memO : ∀ v ∈ ([.non, .bl true, .bl false, .int (-1), .str "", .str "0", .str "1", .ref po1, .ref po2, .ref po3, .ref po4, .int (-(10 ^ (30 : Int).toNat)), .int 0, .int 1] : List V), ∃ d : PyData, Da (hide r Jo5) v d ∧ Ok3 60 2 d ∧ ∀ a b, d ≠ .tuple [a, b] :=
      (List.forall_mem_cons.2 ⟨⟨.none, .non, odd3 (by decide +kernel) (fun a b z => by cases z)⟩,
      (List.forall_mem_cons.2 ⟨⟨.bool true, .bl _, odd3 (by decide +kernel) (fun a b z => by cases z)⟩,
      (List.forall_mem_cons.2 ⟨⟨.bool false, .bl _, odd3 (by decide +kernel) (fun a b z => by cases z)⟩,
      (List.forall_mem_cons.2 ⟨⟨.int (-1), .int _, odd3 (by decide +kernel) (fun a b z => by cases z)⟩,
      (List.forall_mem_cons.2 ⟨⟨.str "", .str _, odd3 (by decide +kernel) (fun a b z => by cases z)⟩,
      (List.forall_mem_cons.2 ⟨⟨.str "0", .str _, odd3 (by decide +kernel) (fun a b z => by cases z)⟩,
      (List.forall_mem_cons.2 ⟨⟨.str "1", .str _, odd3 (by decide +kernel) (fun a b z => by cases z)⟩,
      (List.forall_mem_cons.2 ⟨⟨.tuple [], do1.mono (Uo2.trans (Uo3.trans (Uo4.trans (Uo5)))), odd3 (by decide +kernel) (fun a b z => by cases z)⟩,
      (List.forall_mem_cons.2 ⟨⟨.list [], do2.mono (Uo3.trans (Uo4.trans (Uo5))), odd3 (by decide +kernel) (fun a b z => by cases z)⟩,
      (List.forall_mem_cons.2 ⟨⟨.dict [], do3.mono (Uo4.trans (Uo5)), odd3 (by decide +kernel) (fun a b z => by cases z)⟩,
      (List.forall_mem_cons.2 ⟨⟨.tuple [.int 0], do4.mono (Uo5), odd3 (by decide +kernel) (fun a b z => by cases z)⟩,
      (List.forall_mem_cons.2 ⟨⟨.int (-(10 ^ (30 : Int).toNat)), .int _, odd3 (by decide +kernel) (fun a b z => by cases z)⟩,
      (List.forall_mem_cons.2 ⟨⟨.int 0, .int _, odd3 (by decide +kernel) (fun a b z => by cases z)⟩,
      (List.forall_mem_cons.2 ⟨⟨.int 1, .int _, odd3 (by decide +kernel) (fun a b z => by cases z)⟩,
      (fun v hv => by cases hv)⟩)⟩)⟩)⟩)⟩)⟩)⟩)⟩)⟩)⟩)⟩)⟩)⟩)⟩)
    refine ⟨r, _, _, rfl, Ro5, SqL.of ko5, Ro5.ne ko5 (fun _ _ z => by cases z), (by show 0 < 14; decide), (by show 14 ≤ 1000; decide), fun vo J1 E1 R1 hvo => ?_⟩
    obtain ⟨dO, ho0, oO0, nO⟩ := memO vo hvo
    have oO : Ok3 n k dO := oO0.mono n60 k2
    have U01 : Same (hide r H) (hide r J1) := (hide_to (So1.trans (So2.trans (So3.trans (So4.trans (So5)))))).trans (hide_ext E1)
    have ho := ho0.mono (hide_ext E1)
    have hx := hx0.mono U01
    have hy := hy0.mono U01
    have gxy : hide r J1 a = some (.tup [x, y]) := U01 _ _ h
    have ha := hide_same r J1 _ _ gxy
    have hxy : Da (hide r J1) (.ref a) (.tuple [dx, dy]) := Da.tup gxy (.cons hx (.cons hy .nil))
    clear hx0 hy0 ho0
    refine ⟨_, rfl, _, rfl, a, _, _, _, rfl, rfl, SqT.of (Same.refl _ _ _ ha), rfl, (by show 2 ≤ sizeLine; decide), fun pc1 hpc1 => ?_⟩
    obtain ⟨Jc1, jc1, Sc1, Uc1, Rc1, kc1, gc1⟩ := stp (o := .tup ([vo, y] : List V)) R1 hpc1
    rw [jc1]
    have dc1 : Da (hide r Jc1) (.ref pc1) (.tuple [dO, dy]) := Da.tup gc1 (.cons (ho.mono (Uc1)) (.cons (hy.mono (Uc1)) .nil))
    refine ⟨_, rfl, a, _, _, _, rfl, rfl, SqT.of ((Sc1) _ _ ha), rfl, _, rfl, (by show 2 ≤ sizeLine; decide), fun pc2 hpc2 => ?_⟩
    obtain ⟨Jc2, jc2, Sc2, Uc2, Rc2, kc2, gc2⟩ := stp (o := .tup ([x, vo] : List V)) Rc1 hpc2
    rw [jc2]
    have dc2 : Da (hide r Jc2) (.ref pc2) (.tuple [dx, dO]) := Da.tup gc2 (.cons (hx.mono (Uc1.trans (Uc2))) (.cons (ho.mono (Uc1.trans (Uc2))) .nil))
    refine ⟨_, rfl, a, _, rfl, .inr (SqT.of ((Sc1.trans (Sc2)) _ _ ha)), fun pc3 hpc3 npc3 => ?_⟩
    obtain ⟨Jc3, jc3, Sc3, Uc3, Rc3, kc3, gc3⟩ := stp (o := .lst ([x, y] : List V)) Rc2 hpc3
    rw [jc3]
    have dc3 : Da (hide r Jc3) (.ref pc3) (.list [dx, dy]) := Da.lst npc3 gc3 (.cons (hx.mono (Uc1.trans (Uc2.trans (Uc3)))) (.cons (hy.mono (Uc1.trans (Uc2.trans (Uc3)))) .nil))
    refine ⟨_, rfl, _, rfl, (by show 1 ≤ sizeLine; decide), fun pc4 hpc4 => ?_⟩
    obtain ⟨Jc4, jc4, Sc4, Uc4, Rc4, kc4, gc4⟩ := stp (o := .tup ([vo] : List V)) Rc3 hpc4
    rw [jc4]
    have dc4 : Da (hide r Jc4) (.ref pc4) (.tuple [dO]) := Da.tup gc4 (.cons (ho.mono (Uc1.trans (Uc2.trans (Uc3.trans (Uc4))))) .nil)
    refine ⟨a, pc4, _, _, rfl, rfl, SqT.of ((Sc1.trans (Sc2.trans (Sc3.trans (Sc4)))) _ _ ha), SqT.of kc4, (fun z => by cases z), (by show 3 ≤ sizeLine; decide), (fun z => by cases z), fun _ pc5 hpc5 => ?_⟩
    obtain ⟨Jc5, jc5, Sc5, Uc5, Rc5, kc5, gc5⟩ := stp (o := .tup ([x, y] ++ [vo] : List V)) Rc4 hpc5
    rw [jc5]
    have dc5 : Da (hide r Jc5) (.ref pc5) (.tuple [dx, dy, dO]) := Da.tup (show hide r Jc5 pc5 = some (.tup [x, y, vo]) from gc5) (.cons (hx.mono (Uc1.trans (Uc2.trans (Uc3.trans (Uc4.trans (Uc5)))))) (.cons (hy.mono (Uc1.trans (Uc2.trans (Uc3.trans (Uc4.trans (Uc5)))))) (.cons (ho.mono (Uc1.trans (Uc2.trans (Uc3.trans (Uc4.trans (Uc5)))))) .nil)))
    refine ⟨_, rfl, _, rfl, a, _, rfl, SqT.of ((Sc1.trans (Sc2.trans (Sc3.trans (Sc4.trans (Sc5))))) _ _ ha), (by show ¬ (HT.sIx 2 0 none = 0 ∧ HT.sIx 2 2 (some 1) = 2); decide), fun pc6 hpc6 => ?_⟩
    obtain ⟨Jc6, jc6, Sc6, Uc6, Rc6, kc6, gc6⟩ := stp (o := .tup (cutV ([x, y] : List V) none (some 1))) Rc5 hpc6
    rw [jc6]
    have dc6 : Da (hide r Jc6) (.ref pc6) (.tuple [dx]) := Da.tup (show hide r Jc6 pc6 = some (.tup [x]) from gc6) (.cons (hx.mono (Uc1.trans (Uc2.trans (Uc3.trans (Uc4.trans (Uc5.trans (Uc6))))))) .nil)
    refine ⟨_, rfl, a, x, y, rfl, SqT.of ((Sc1.trans (Sc2.trans (Sc3.trans (Sc4.trans (Sc5.trans (Sc6)))))) _ _ ha), fun pc7 hpc7 => ?_⟩
    obtain ⟨Jc7, jc7, Sc7, Uc7, Rc7, kc7, gc7⟩ := stp (o := .tup ([y, x] : List V)) Rc6 hpc7
    rw [jc7]
    have dc7 : Da (hide r Jc7) (.ref pc7) (.tuple [dy, dx]) := Da.tup gc7 (.cons (hy.mono (Uc1.trans (Uc2.trans (Uc3.trans (Uc4.trans (Uc5.trans (Uc6.trans (Uc7)))))))) (.cons (hx.mono (Uc1.trans (Uc2.trans (Uc3.trans (Uc4.trans (Uc5.trans (Uc6.trans (Uc7)))))))) .nil))
    refine ⟨_, rfl, (by show 1 ≤ sizeLine; decide), fun pc8 hpc8 => ?_⟩
    obtain ⟨Jc8, jc8, Sc8, Uc8, Rc8, kc8, gc8⟩ := stp (o := .tup ([.ref a] : List V)) Rc7 hpc8
    rw [jc8]
    have dc8 : Da (hide r Jc8) (.ref pc8) (.tuple [.tuple [dx, dy]]) := Da.tup gc8 (.cons (hxy.mono (Uc1.trans (Uc2.trans (Uc3.trans (Uc4.trans (Uc5.trans (Uc6.trans (Uc7.trans (Uc8))))))))) .nil)
    refine ⟨_, rfl, (by show 8 ≤ sizeLine; decide), fun pc9 hpc9 => ?_⟩
    obtain ⟨Jc9, jc9, Sc9, Uc9, Rc9, kc9, gc9⟩ := stp (o := .lst ([.ref pc1, .ref pc2, .ref pc3, .ref pc5, .ref pc6, .ref pc7, .ref pc8, vo] : List V)) Rc8 hpc9
    rw [jc9]
    have memC : ∀ v ∈ ([.ref pc1, .ref pc2, .ref pc3, .ref pc5, .ref pc6, .ref pc7, .ref pc8, vo] : List V), ∃ d : PyData, Da (hide r Jc9) v d ∧ Hd (3 * n + 9) (k + 1) d :=
      (List.forall_mem_cons.2 ⟨⟨.tuple [dO, dy], dc1.mono (Uc2.trans (Uc3.trans (Uc4.trans (Uc5.trans (Uc6.trans (Uc7.trans (Uc8.trans (Uc9)))))))), hd2 oO oy⟩,
      (List.forall_mem_cons.2 ⟨⟨.tuple [dx, dO], dc2.mono (Uc3.trans (Uc4.trans (Uc5.trans (Uc6.trans (Uc7.trans (Uc8.trans (Uc9))))))), hd2 ox oO⟩,
      (List.forall_mem_cons.2 ⟨⟨.list [dx, dy], dc3.mono (Uc4.trans (Uc5.trans (Uc6.trans (Uc7.trans (Uc8.trans (Uc9)))))), hdL2 ox oy⟩,
      (List.forall_mem_cons.2 ⟨⟨.tuple [dx, dy, dO], dc5.mono (Uc6.trans (Uc7.trans (Uc8.trans (Uc9)))), hdT3 ox oy oO⟩,
      (List.forall_mem_cons.2 ⟨⟨.tuple [dx], dc6.mono (Uc7.trans (Uc8.trans (Uc9))), hdT1 ox⟩,
      (List.forall_mem_cons.2 ⟨⟨.tuple [dy, dx], dc7.mono (Uc8.trans (Uc9)), hd2 oy ox⟩,
      (List.forall_mem_cons.2 ⟨⟨.tuple [.tuple [dx, dy]], dc8.mono (Uc9), hdT1 oxy⟩,
      (List.forall_mem_cons.2 ⟨⟨dO, ho.mono (Uc1.trans (Uc2.trans (Uc3.trans (Uc4.trans (Uc5.trans (Uc6.trans (Uc7.trans (Uc8.trans (Uc9))))))))), hdO oO nO⟩,
      (fun v hv => by cases hv)⟩)⟩)⟩)⟩)⟩)⟩)⟩)⟩)
    refine ⟨_, rfl, _, rfl, r, _, _, rfl, Rc9, SqL.of kc9, Rc9.ne kc9 (fun _ _ z => by cases z), (by show 0 < 8; decide), (by show 8 ≤ 1000; decide), fun v' J3 E3 R3 hv => ?_⟩
    obtain ⟨d', hd', hs'⟩ := memC v' hv
    exact q v' d' J3 (((Ext.of (So1.trans (So2.trans (So3.trans (So4.trans (So5)))))).trans E1).trans ((Ext.of (Sc1.trans (Sc2.trans (Sc3.trans (Sc4.trans (Sc5.trans (Sc6.trans (Sc7.trans (Sc8.trans (Sc9)))))))))).trans E3)) R3 (hd'.mono (hide_ext E3)) hs'
end
end N2
namespace N2
open PySem L2 G N4
def txt2 (a : Str) (d : PyData) : PyData := .list [.str a, d]
def optD : PyData → Option Int
  | .int h => some h
  | _ => none
def conD : PyData → PyData → Bool
  | .tuple [.int l, h], .int x => contW (l, optD h) x
  | _, _ => false
def risD : PyData → PyData → Bool
  | .tuple [.int l, h], .tuple [.int l2, h2] => risW (l, optD h) (l2, optD h2)
  | _, _ => false
theorem opt_hD : ∀ o : Option Int, optD (hD o) = o
  | none => rfl
  | some _ => rfl
theorem con_wD (w : Wn) (x : Int) : conD (wD w) (.int x) = contW w x := by
  show contW (w.1, optD (hD w.2)) x = _
  rw [opt_hD]
theorem ris_wD (a b : Wn) : risD (wD a) (wD b) = risW a b := by
  show risW (a.1, optD (hD a.2)) (b.1, optD (hD b.2)) = _
  rw [opt_hD, opt_hD]
def dueC (d1 d2 : PyData) : PyData := if winB d1 = false then txt2 "window" (.str d1.shown) else
  if verB d2 = false then txt2 "version" (.str d2.shown) else txt2 "returned" (.bool (conD d1 d2))
def dueR (d1 d2 : PyData) : PyData := if winB d1 = false then txt2 "window" (.str d1.shown) else
  if winB d2 = false then txt2 "window" (.str d2.shown) else txt2 "returned" (.bool (risD d1 d2))
def spDue (due : PyData → PyData → PyData) : Sp := fun vs H Q _ => ∃ (v1 v2 : V) (d1 d2 : PyData), vs = [v1, v2] ∧ Da H v1 d1 ∧ Da H v2 d2 ∧ Shw d1 ∧ Shw d2 ∧
  ∀ p H', Same H H' → Da H' (.ref p) (due d1 d2) → Q (.ref p) H'
theorem da2 {H : Hp} {p : Addr} {a z : Str} (np : p ≠ sysModules) : Da (upd H p (.lst [.str a, .str z])) (.ref p) (txt2 a (.str z)) :=
  .lst np upd_same (.cons (.str _) (.cons (.str _) .nil))
theorem da2b {H : Hp} {p : Addr} {a : Str} {b : Bool} (np : p ≠ sysModules) : Da (upd H p (.lst [.str a, .bl b])) (.ref p) (txt2 a (.bool b)) :=
  .lst np upd_same (.cons (.str _) (.cons (.bl _) .nil))
section
variable {P : Program} {w : World} {K : PySem.W.Frag} {mg : Str → Option Value} {base : Heap}
theorem scCD : FnScope ["_law_window_here", "_law_version"] ["_law_window_here", "_law_version"] (defScope sCDue) :=
  ⟨rfl, rfl, rfl, by decide +kernel, rfl, by decide +kernel, by decide +kernel⟩
theorem ok_cdue {f fW fV : Addr} {fd fdW fdV : FuncData} (F : Fun K "_law_contains_due" "_law_contains_due" sCDue f fd) (T : Txt mg)
    (GW : FnOk P w K mg base CX0 2 fW fdW ["_law_value"] (spB winB)) (kW : PySem.W.keepIn K (.ref fW) = true) (bW : Binds K fdW ["_law_value"] []) (gW : mg "_law_is_window" = some (.ref fW))
    (GV : FnOk P w K mg base CX0 1 fV fdV ["_law_value"] (spB verB)) (kV : PySem.W.keepIn K (.ref fV) = true) (bV : Binds K fdV ["_law_value"] []) (gV : mg "_law_is_version" = some (.ref fV)) :
    FnG P w K mg base CX0 3 f fd ["_law_window_here", "_law_version"] (spDue dueC) := by
  refine okG F scCD (fun vs H Q E h => ?_) (fun cdv A outer s H vs Q E gd hr h => ?_)
  · obtain ⟨v1, v2, d1, d2, rfl, _⟩ := h
    rfl
  · obtain ⟨v1, v2, d1, d2, rfl, h1, h2, s1, s2, q⟩ := h
    have hrW : Room 2 _ := hr
    have hrV : Room 1 _ := hr.mono (by decide)
    refine ⟨_, pss_cons (ps_if (pt_not (pt_val (pe_call GW hrW (by rfl) gW kW bW .nil pass0 (pa_cons (pv 0) pa_nil)))) (pss_one (ps_ret (pe_lstS (pa_cons pe_str (pa_cons (pe_callB (call_repS gd hr.units) (by rfl) T.repr (by decide +kernel) (pa_cons (pv 0) pa_nil)) pa_nil))))) pss_nil)
      (pss_cons (ps_if (pt_not (pt_val (pe_call GV hrV (by rfl) gV kV bV .nil pass0 (pa_cons (pv 1) pa_nil)))) (pss_one (ps_ret (pe_lstS (pa_cons pe_str (pa_cons (pe_callB (call_repS gd hr.units) (by rfl) T.repr (by decide +kernel) (pa_cons (pv 1) pa_nil)) pa_nil))))) pss_nil)
      (pss_one (ps_ret (pe_lstS (pa_cons pe_str (pa_cons (pe_and (pe_cmpR op_le (pe_ix ix_tup (pv 0) pe_int (fun _ _ => rfl)) (pv 1) (nomark _)) (pe_one (pe_or (pe_cmp (pc_isN (pe_ix ix_tup (pv 0) pe_int (fun _ _ => rfl)))) (pe_one (pe_cmpR op_le (pv 1) (pe_ix ix_tup (pv 0) pe_int (fun _ _ => rfl)) (nomark _)))))) pa_nil)))))), ?_⟩
    refine ⟨_, rfl, v1, d1, rfl, h1, _, rfl, ?_⟩
    cases hb : winB d1 with
    | false =>
      refine iteT ⟨_, rfl, _, d1, rfl, h1, s1, (by show 2 ≤ sizeLine; decide), fun p hp np => ?_⟩
      refine q p _ (new_same hp) ?_
      rw [dueC, if_pos hb]
      exact da2 np
    | true =>
      have nb : ¬ winB d1 = false := by rw [hb]; decide
      refine iteF ⟨_, rfl, v2, d2, rfl, h2, _, rfl, ?_⟩
      cases hv : verB d2 with
      | false =>
        refine iteT ⟨_, rfl, _, d2, rfl, h2, s2, (by show 2 ≤ sizeLine; decide), fun p hp np => ?_⟩
        refine q p _ (new_same hp) ?_
        rw [dueC, if_neg nb, if_pos hv]
        exact da2 np
      | true =>
        have nv : ¬ verB d2 = false := by rw [hv]; decide
        obtain ⟨ww, rfl, w0, w1⟩ := winB_inv hb
        obtain ⟨n, rfl, n0⟩ := verB_inv hv
        obtain ⟨t, rfl, ht⟩ := win_at h1
        cases h2
        have fin : ∀ b : Bool, b = contW ww n → ∀ p, H p = none → p ≠ sysModules → Q (.ref p) (upd H p (.lst [.str "returned", .bl b])) := by
          intro b eb p hp np
          refine q p _ (new_same hp) ?_
          rw [dueC, if_neg nb, if_neg nv, con_wD, ← eb]
          exact da2b np
        refine iteF ⟨_, rfl, t, _, _, _, rfl, rfl, SqT.of ht, rfl, _, rfl, _, _, rfl, rfl, _, rfl, ?_⟩
        by_cases e : ww.1 ≤ n
        · rw [decide_eq_true e]
          refine iteT ⟨_, rfl, t, _, _, _, rfl, rfl, SqT.of ht, rfl, _, rfl, ?_⟩
          obtain ⟨l, o⟩ := ww
          have e' : l ≤ n := e
          cases o with
          | none => exact iteT ⟨(by show 2 ≤ sizeLine; decide), fin true (by simp [contW, e', reach])⟩
          | some x => exact iteF ⟨_, rfl, _, rfl, t, _, _, _, rfl, rfl, SqT.of ht, rfl, _, _, rfl, rfl, (by show 2 ≤ sizeLine; decide), fin (decide (n ≤ x)) (by simp [contW, e', reach])⟩
        · rw [decide_eq_false e]
          exact iteF ⟨(by show 2 ≤ sizeLine; decide), fin false (by simp [contW, e])⟩

theorem scRD : FnScope ["_law_one", "_law_other", "_law_value"] ["_law_one", "_law_other"] (defScope sRDue) :=
  ⟨rfl, rfl, rfl, by decide +kernel, rfl, by decide +kernel, by decide +kernel⟩
theorem ok_rdue {f fW : Addr} {fd fdW : FuncData} (F : Fun K "_law_rises_due" "_law_rises_due" sRDue f fd) (T : Txt mg)
    (GW : FnOk P w K mg base CX0 2 fW fdW ["_law_value"] (spB winB)) (kW : PySem.W.keepIn K (.ref fW) = true) (bW : Binds K fdW ["_law_value"] []) (gW : mg "_law_is_window" = some (.ref fW)) :
    FnG P w K mg base CX0 3 f fd ["_law_one", "_law_other"] (spDue dueR) := by
  refine okG F scRD (fun vs H Q E h => ?_) (fun cdv A outer s H vs Q E gd hr h => ?_)
  · obtain ⟨v1, v2, d1, d2, rfl, _⟩ := h
    rfl
  · obtain ⟨v1, v2, d1, d2, rfl, h1, h2, s1, s2, q⟩ := h
    have hrW : Room 2 _ := hr
    refine ⟨_, pss_cons (ps_for PassesOwn.never rfl (pi_tup (pe_tup (pa_cons (pv 0) (pa_cons (pv 1) pa_nil)))) (pg_name (i := 2) scRD.nd rfl (Or.inl rfl))
        (pss_one (ps_if (pt_not (pt_val (pe_call GW hrW (by rfl) gW kW bW .nil pass0 (pa_cons (pv 2) pa_nil)))) (pss_one (ps_ret (pe_lstS (pa_cons pe_str (pa_cons (pe_callB (call_repS gd hr.units) (by rfl) T.repr (by decide +kernel) (pa_cons (pv 2) pa_nil)) pa_nil))))) pss_nil)))
      (pss_cons (ps_if (pt_cmpR op_lt (pe_ix ix_tup (pv 1) pe_int (fun _ _ => rfl)) (pe_ix ix_tup (pv 0) pe_int (fun _ _ => rfl)) (nomark _)) (pss_one (ps_ret (pe_lstS (pa_cons pe_str (pa_cons pe_bl pa_nil))))) pss_nil)
      (pss_one (ps_ret (pe_lstS (pa_cons pe_str (pa_cons (pe_or (pe_cmp (pc_isN (pe_ix ix_tup (pv 1) pe_int (fun _ _ => rfl)))) (pe_one (pe_and (pe_cmp (pc_notN (pe_ix ix_tup (pv 0) pe_int (fun _ _ => rfl)))) (pe_one (pe_cmpR op_le (pe_ix ix_tup (pv 0) pe_int (fun _ _ => rfl)) (pe_ix ix_tup (pv 1) pe_int (fun _ _ => rfl)) (nomark _)))))) pa_nil)))))), ?_⟩
    refine ⟨_, rfl, _, rfl, (by show 2 ≤ sizeLine; decide), fun t ht => ?_⟩
    obtain ⟨J1, j1, S1, k1⟩ := mk (o := .tup [v1, v2]) ht
    rw [j1]
    have g1 := h1.mono S1
    have g2 := h2.mono S1
    refine ⟨t, rfl, ⟨_, SqT.of k1⟩, ?_⟩
    refine for_it (walk_tup (xs := [v1, v2])) (fun i σ J => ∃ c, σ = [some v1, some v2, c] ∧ J = J1 ∧ (1 ≤ i → winB d1 = true) ∧ (2 ≤ i → winB d2 = true))
      ⟨_, rfl, rfl, fun z => absurd z (by decide), fun z => absurd z (by decide)⟩ (fun i σ J _ ⟨_, _, e, _⟩ => by rw [e]; exact SqT.of k1) ?_ ?_
    · rintro i x σ J J' hi ⟨c, rfl, rfl, w1, w2⟩ ⟨rfl, hx⟩
      match i, hi, hx, w1 with
      | 0, _, hx, _ =>
        obtain rfl : v1 = x := Option.some.inj hx
        refine ⟨_, rfl, v1, d1, rfl, g1, _, rfl, ?_⟩
        cases hb : winB d1 with
        | false =>
          refine iteT ⟨_, rfl, _, d1, rfl, g1, s1, (by show 2 ≤ sizeLine; decide), fun p hp np => ?_⟩
          refine q p _ (S1.trans (new_same hp)) ?_
          rw [dueR, if_pos hb]
          exact da2 np
        | true => exact iteF ⟨_, rfl, rfl, fun _ => rfl, fun z => absurd z (by decide)⟩
      | 1, _, hx, w1 =>
        obtain rfl : v2 = x := Option.some.inj hx
        have hb1 := w1 (Nat.le_refl _)
        have nb : ¬ winB d1 = false := by rw [hb1]; decide
        refine ⟨_, rfl, v2, d2, rfl, g2, _, rfl, ?_⟩
        cases hb : winB d2 with
        | false =>
          refine iteT ⟨_, rfl, _, d2, rfl, g2, s2, (by show 2 ≤ sizeLine; decide), fun p hp np => ?_⟩
          refine q p _ (S1.trans (new_same hp)) ?_
          rw [dueR, if_neg nb, if_pos hb]
          exact da2 np
        | true => exact iteF ⟨_, rfl, rfl, fun _ => hb1, fun _ => rfl⟩
    · rintro σ J ⟨c, rfl, rfl, w1, w2⟩
      have hb1 := w1 (by show 1 ≤ 2; decide)
      have hb2 := w2 (by show 2 ≤ 2; decide)
      have nb1 : ¬ winB d1 = false := by rw [hb1]; decide
      have nb2 : ¬ winB d2 = false := by rw [hb2]; decide
      obtain ⟨a, rfl, a0, a1⟩ := winB_inv hb1
      obtain ⟨b, rfl, b0, b1⟩ := winB_inv hb2
      obtain ⟨ta, rfl, ha⟩ := win_at g1
      obtain ⟨tb, rfl, hb⟩ := win_at g2
      have fin : ∀ c : Bool, c = risW a b → ∀ p, J p = none → p ≠ sysModules → Q (.ref p) (upd J p (.lst [.str "returned", .bl c])) := by
        intro c eb p hp np
        refine q p _ (S1.trans (new_same hp)) ?_
        rw [dueR, if_neg nb1, if_neg nb2, ris_wD, ← eb]
        exact da2b np
      refine ⟨_, rfl, tb, _, _, _, rfl, rfl, SqT.of hb, rfl, _, rfl, ta, _, _, _, rfl, rfl, SqT.of ha, rfl, _, _, rfl, rfl, _, rfl, ?_⟩
      obtain ⟨al, ah⟩ := a
      obtain ⟨bl, bh⟩ := b
      by_cases e : bl < al
      · have e' : (bl < al) = True := by simp [e]
        rw [decide_eq_true (show (bl, bh).1 < (al, ah).1 from e)]
        exact iteT ⟨(by show 2 ≤ sizeLine; decide), fin false (by simp [risW, e])⟩
      · rw [decide_eq_false (show ¬ (bl, bh).1 < (al, ah).1 from e)]
        refine iteF ⟨_, rfl, tb, _, _, _, rfl, rfl, SqT.of hb, rfl, _, rfl, ?_⟩
        cases bh with
        | none => exact iteT ⟨(by show 2 ≤ sizeLine; decide), fin true (by cases ah <;> simp [risW, e, reach])⟩
        | some y =>
          refine iteF ⟨_, rfl, ta, _, _, _, rfl, rfl, SqT.of ha, rfl, _, rfl, ?_⟩
          cases ah with
          | none => exact iteF ⟨(by show 2 ≤ sizeLine; decide), fin false (by simp [risW, e])⟩
          | some x => exact iteT ⟨_, rfl, ta, _, _, _, rfl, rfl, SqT.of ha, rfl, _, rfl, tb, _, _, _, rfl, rfl, SqT.of hb, rfl, _, _, rfl, rfl, (by show 2 ≤ sizeLine; decide), fin (decide (x ≤ y)) (by simp [risW, e, reach])⟩
end
end N2
namespace G
open PySem PySem.Spec PyProof.Rows L2
/-- a caught error's class asked for, whatever its class -/
theorem call_isQ {X : Cx} {a : Addr} {oe : Obj} {cls : Value} {d : Option Addr} {pn : List (Addr × Obj)} (hz : Zc cls d oe) (hf : ∃ vs, oe.data = .fields vs) :
    CallR (X.suite a ((a, oe) :: pn)) (.builtin "isinstance") (fun xs H Q => ∃ D dd, cls = .ref D ∧ d = some dd ∧ ExcC X.K D ∧ (∃ fs, H dd = some (.xd fs)) ∧ rIsE X.K D a xs H Q) := by
  intro pins s σ H xs us Q I r h
  obtain ⟨D, dd, rfl, rfl, C, h⟩ := h
  exact call_isX C hz hf pins s σ H xs us Q I r h
/-- a caught error's field, whatever its class -/
theorem pe_xfQ {X : Cx} {a : Addr} {oe : Obj} {cls : Value} {d : Option Addr} {pn : List (Addr × Obj)} {e : Expr} {te : TE} {pos : Pos} {n : Str}
    (hz : Zc cls d oe) (hf : ∃ vs, oe.data = .fields vs) (he : PE (X.suite a ((a, oe) :: pn)) e te)
    (hb : attributeBase e n X.env (eval e X.env) = eval e X.env := by rfl) :
    PE (X.suite a ((a, oe) :: pn)) (.Attribute e n pos) (fun σ H Q => ∃ C, XfC X.K C ∧ PySem.W.findIn X.K (.ref C) n = some none ∧ tXf a cls d C n te σ H Q) :=
  ⟨fun pins s σ H Q I ⟨_, T, no, h⟩ => (pe_xf T no hz hf he hb).run pins s σ H Q I h⟩
/-- rules with the fragment named, for a suite -/
theorem ix_listK {Y : Cx} {K : PySem.W.Frag} (e : Y.K = K) : IxR Y (rIxL K) := by
  subst e
  exact ix_list
theorem mt_countK {Y : Cx} {K : PySem.W.Frag} (e : Y.K = K) : MtR Y "list.count" (rCountB K) := by
  subst e
  exact mt_countB
theorem mt_indexK {Y : Cx} {K : PySem.W.Frag} (e : Y.K = K) : MtR Y "list.index" (rIndex K) := by
  subst e
  exact mt_index
theorem pe_bmK {Y : Cx} {K : PySem.W.Frag} {o e : Expr} {es : List Expr} {to : TE} {t : TA} {name : Str} {apos cpos : Pos}
    {T id : String} {r : V → List V → Hp → VK → Prop} (eK : Y.K = K) (pa : PlainAttrs T) (slot : Slot T name id)
    (ty : typeOf (.builtin id) = pure (.type "method_descriptor")) (hm : MtR Y id r) (ho : PE Y o to) (ha : PA Y (e :: es) t)
    (h1 : attributeBase o name Y.env (eval o Y.env) = eval o Y.env := by rfl)
    (h2 : ((backTo cpos (starEach (e :: es) Y.env)).all (fun x => !x.1) &&
      (backToKw cpos (keywordEach [] Y.env)).all (fun x => x.1.isSome) && decide ((e :: es).length +
        ([] : List Keyword).length + (if ([] : List Keyword).isEmpty then 0 else 1) < 30)) = true := by rfl)
    (h3 : (apos.endLine == cpos.line) = true := by rfl)
    (h4 : starEach (e :: es) Y.env = (false, eval e Y.env) :: starEach es Y.env := by rfl)
    (h5 : (backTo cpos (starEach es Y.env)).any (·.1) = false := by rfl) :
    PE Y (.Call (.Attribute o name apos) (e :: es) [] cpos) (tBM K T r to t) := by
  subst eK
  exact pe_bm pa slot ty hm ho ha h1 h2 h3 h4 h5
end G
namespace N2
open PySem PySem.Spec PyProof.Rows L2 G N4 LamX
/-- how the classes stand to each other and to their bases -/
structure Two (K : PySem.W.Frag) (mg : Str → Option Value) (CG CN CS CW CV : Addr) : Prop where
  gG : mg "GroupError" = some (.ref CG)
  gN : mg "InvalidName" = some (.ref CN)
  gS : mg "InvalidWindows" = some (.ref CS)
  eW : PySem.W.exmOne K (.ref CW) (.ref CG) = some true
  eV : PySem.W.exmOne K (.ref CV) (.ref CG) = some true
  ww : PySem.W.kitOne K (.ref CW) (.ref CW) = some true
  wv : PySem.W.kitOne K (.ref CW) (.ref CV) = some false
  vv : PySem.W.kitOne K (.ref CV) (.ref CV) = some true
  vw : PySem.W.kitOne K (.ref CV) (.ref CW) = some false
  wE : PySem.W.kitOne K (.ref CW) (.type "ValueError") = some true
  vE : PySem.W.kitOne K (.ref CV) (.type "ValueError") = some true
  wA : PySem.W.kitAny K (.ref CW) [.ref CN, .ref CS, .type "LookupError", .type "RuntimeError", .type "ArithmeticError"] = some false
  vA : PySem.W.kitAny K (.ref CV) [.ref CN, .ref CS, .type "LookupError", .type "RuntimeError", .type "ArithmeticError"] = some false
theorem vals5 {a b : Addr} {c d e : String} {us : List Value} (h : Vals [.ref a, .ref b, .ty c, .ty d, .ty e] us) :
    us = [.ref a, .ref b, .type c, .type d, .type e] := by
  cases h with
  | cons r1 h =>
  cases h with
  | cons r2 h =>
  cases h with
  | cons r3 h =>
  cases h with
  | cons r4 h =>
  cases h with
  | cons r5 h =>
  cases h
  rename_i u1 u2 u3 u4 u5
  obtain rfl : u1 = Value.ref a := r1
  obtain rfl : u2 = Value.ref b := r2
  obtain rfl : u3 = Value.type c := r3
  obtain rfl : u4 = Value.type d := r4
  obtain rfl : u5 = Value.type e := r5
  rfl
/-- what told makes of a call's reading -/
def TT2 (CW CV : Addr) : (XK → Hp → VK → Prop) → Hp → VK → Prop := fun tl H Q => ∀ H0, Same H H0 → ∀ (R : XK) (S : VK),
  (∀ cls d J, (∃ (dx : Addr) (v : V) (dv : PyData) (nm : Str), d = some dx ∧ J dx = some (.xd [("value", v)]) ∧ Da J v dv ∧ Shw dv ∧
    ((cls = .ref CW ∧ nm = "window") ∨ (cls = .ref CV ∧ nm = "version")) ∧ ∀ p H', Same J H' → J p = none → p ≠ sysModules → H' p = some (.lst [.str nm, .str dv.shown]) → Q (.ref p) H') → R cls d J) →
  (∀ (b : Bool) (J : Hp), (∀ p H', Same J H' → J p = none → p ≠ sysModules → H' p = some (.lst [.str "returned", .bl b]) → Q (.ref p) H') → S (.bl b) J) → tl R H0 S
end N2
namespace N2
open PySem PySem.Spec PyProof.Rows L2 G N4 LamX
section
variable {P : Program} {w : World} {K : PySem.W.Frag} {mg : Str → Option Value} {base : Heap}
abbrev NT : List Str := ["_law_call", "_law_told_here", "e", "_law_flags", "_law_others"]
theorem scTo : FnScope NT ["_law_call"] (defScope sTold) :=
  ⟨rfl, rfl, rfl, by decide +kernel, rfl, by decide +kernel, by decide +kernel⟩
theorem told_gives {X : Cx} {g CG CN CS CW CV : Addr} {cdg : Value} {q : Str} (gd : X.A.guards = some []) (hu : X.A.units + 200 < cLine) (T : Txt X.mg) (T2 : Two X.K X.mg CG CN CS CW CV)
    (TW : XCls X.prog X.w X.K X.mg X.base "InvalidWindow" CW "value" "value") (TV : XCls X.prog X.w X.K X.mg X.base "InvalidVersion" CV "value" "value") :
    GivesS X NT "_law_told" (defScope sTold) g cdg (defBody sTold) "_law_call" q (TT2 CW CV) := by
  intro f c' s H Q tl act hc h
  have gd2 : (X.A.deeper (envOfC "_law_told" (defScope sTold) s.heap.objs.size g cdg)).guards = some [] := gd
  have hu2 : (X.A.deeper (envOfC "_law_told" (defScope sTold) s.heap.objs.size g cdg)).units + 64 < cLine := by
    show X.A.units + 3 + 64 < cLine
    omega
  refine ⟨_, pss_cons (ps_set (i := 1) scTo.nd rfl (Or.inl rfl) (pe_lstS (pa_cons pe_str pa_nil)))
    (pss_cons (ps_try_as (X := (cxOf CX0 X.prog X.w X.K X.mg X.base NT "_law_told" (defScope sTold) g cdg X.A X.stack s H E0).nox) (i := 2) (Wout := fun _ _ _ _ => False)
        (tb := fun W => tAsg (tLstS (tCons (tC (.str "returned")) (tCons (fun σz Hz Q => σz[0]? = some (some (.ref f)) ∧ Hz c' = some (CodeO c' q) ∧ tl (WE W σz) Hz Q) tNil))) (gName 1))
        rfl rfl scTo.nd rfl rfl ⟨rfl, by decide, Or.inl T2.gG⟩ L2.takes0
        (fun W pn xe tk _ => pss_one (ps_set (i := 1) scTo.nd rfl (Or.inl rfl) (by exact (pe_lstS (pa_cons pe_str (pa_cons (act W pn xe _ _ tk) pa_nil))))))
        (fun a oe cls d pn hz hf => pss_cons (ps_set (i := 3) scTo.nd rfl (Or.inl rfl) (pe_lst (pa_cons (pe_callB (call_isQ hz hf) (by rfl) T.isi (by decide +kernel) (pa_cons (pv 2) (pa_cons (pe_glob (v := .ref CW) rfl TW.gC rfl) pa_nil)))
              (pa_cons (pe_callB (call_isQ hz hf) (by rfl) T.isi (by decide +kernel) (pa_cons (pv 2) (pa_cons (pe_glob (v := .ref CV) rfl TV.gC rfl) pa_nil))) pa_nil))))
          (pss_cons (ps_set (i := 4) scTo.nd rfl (Or.inl rfl) (pe_callB (call_isXT hz hf) (by rfl) T.isi (by decide +kernel) (pa_cons (pv 2) (pa_cons (pe_tup (pa_cons (pe_glob (v := .ref CN) rfl T2.gN rfl) (pa_cons (pe_glob (v := .ref CS) rfl T2.gS rfl)
              (pa_cons (pe_bltn (v := .ty "LookupError") (by rfl) T.look (by decide +kernel) rfl) (pa_cons (pe_bltn (v := .ty "RuntimeError") (by rfl) T.run (by decide +kernel) rfl) (pa_cons (pe_bltn (v := .ty "ArithmeticError") (by rfl) T.arith (by decide +kernel) rfl) pa_nil)))))) pa_nil))))
          (pss_one (ps_if (PW.pt (pw_and (pt_cmpR op_eq (pe_bmK (K := X.K) rfl PySem.F.plainAttrs_list PySem.F.slot_list_count PySem.F.type_list_count (mt_countK (K := X.K) rfl) (pv 3) (pa_cons pe_bl pa_nil)) pe_int (nomark _))
              (pw_and (pt_not (pt_val (pv 4))) (pw_and1 (pt_val (pe_callB (call_isQ hz hf) (by rfl) T.isi (by decide +kernel) (pa_cons (pv 2) (pa_cons (pe_bltn (v := .ty "ValueError") (by rfl) T.value (by decide +kernel) rfl) pa_nil))))))))
            (pss_one (ps_set (i := 1) scTo.nd rfl (Or.inl rfl) (pe_lstS (pa_cons (pe_ix (ix_listK (K := X.K) rfl) (pe_lst (pa_cons pe_str (pa_cons pe_str pa_nil))) (pe_bmK (K := X.K) rfl PySem.F.plainAttrs_list PySem.F.slot_list_index PySem.F.type_list_index (mt_indexK (K := X.K) rfl) (pv 3) (pa_cons pe_bl pa_nil)) (fun _ _ => rfl))
              (pa_cons (pe_callB (call_repS gd2 hu2) (by rfl) T.repr (by decide +kernel) (pa_cons (pe_xfQ hz hf (pv 2)) pa_nil)) pa_nil))))) pss_nil)))))
    (pss_one (ps_ret (pv 1)))), ?_⟩
  refine ⟨(by show 1 ≤ sizeLine; decide), fun p0 hp0 np0 => ?_⟩
  obtain ⟨J0, j0, S0, k0⟩ := mk (o := .lst [V.str "other"]) hp0
  rw [j0]
  refine ⟨rfl, S0 _ _ hc, ?_⟩
  refine h J0 S0 _ _ ?_ (fun b J hyp => ?_)
  · rintro cls d J ⟨dx, v, dv, nm, rfl, hx, hd, hs, hcls, qq⟩
    rcases hcls with ⟨rfl, rfl⟩ | ⟨rfl, rfl⟩
    · refine ⟨true, T2.eW, fun _ a ha => ?_, fun z => Bool.noConfusion z⟩
      refine ⟨_, rfl, CW, dx, rfl, rfl, TW.exc, ⟨_, hx⟩, .ref CW, .ref CW, true, rfl, fun u h => h, T2.ww, ?_⟩
      refine ⟨_, rfl, CW, dx, rfl, rfl, TW.exc, ⟨_, hx⟩, .ref CV, .ref CV, false, rfl, fun u h => h, T2.wv, ?_⟩
      refine ⟨(by show 2 ≤ sizeLine; decide), fun p3 hp3 => ?_⟩
      obtain ⟨J3, j3, S3, k3⟩ := mk (o := .lst ([.bl true, .bl false] : List V)) hp3
      rw [j3]
      refine ⟨_, rfl, (by show 5 ≤ sizeLine; decide), fun p4 hp4 => ?_⟩
      obtain ⟨J4, j4, S4, k4⟩ := mk (o := .tup ([.ref CN, .ref CS, .ty "LookupError", .ty "RuntimeError", .ty "ArithmeticError"] : List V)) hp4
      rw [j4]
      have hx4 := S4 _ _ (S3 _ _ hx)
      have k34 := S4 _ _ k3
      refine ⟨CW, dx, p4, _, _, false, rfl, rfl, TW.exc, ⟨_, hx4⟩, rfl, SqT.of k4, fun us h => vals5 h, T2.wA, ?_⟩
      refine ⟨_, rfl, .inl ⟨rfl, _, SqL.of k34⟩, p3, [true, false], true, rfl, rfl, SqL.of k34, rfl, _, rfl, ?_⟩
      refine iteT ⟨_, rfl, _, rfl, ?_⟩
      refine iteT ⟨_, rfl, CW, dx, rfl, rfl, TW.exc, ⟨_, hx4⟩, .ty "ValueError", .type "ValueError", true, rfl, fun u h => h, T2.wE, _, rfl, ?_⟩
      refine iteT ⟨(by show 2 ≤ sizeLine; decide), fun p5 hp5 => ?_⟩
      obtain ⟨J5, j5, S5, k5⟩ := mk (o := .lst ([.str "window", .str "version"] : List V)) hp5
      rw [j5]
      have k35 := S5 _ _ k34
      have hx5 := S5 _ _ hx4
      have S25 := (S3.trans S4).trans S5
      refine ⟨_, rfl, .inl ⟨rfl, _, SqL.of k35⟩, p3, _, .bl true, 0, .bl true, rfl, rfl, SqL.of k35, rfl, rfl, rfl, rfl, (fun m z hm _ => absurd hm (Nat.not_lt_zero _)), p5, _, _, _, rfl, rfl, SqL.of k5, rfl, ?_⟩
      refine ⟨CW, TW.xf, TW.no, _, rfl, rfl, rfl, dx, _, v, rfl, hx5, rfl, _, dv, rfl, hd.mono S25, hs, (by show 2 ≤ sizeLine; decide), fun p6 hp6 np6 => ?_⟩
      exact ⟨_, rfl, qq p6 _ (S25.trans (new_same hp6)) (S25.free hp6) np6 upd_same⟩
    · refine ⟨true, T2.eV, fun _ a ha => ?_, fun z => Bool.noConfusion z⟩
      refine ⟨_, rfl, CV, dx, rfl, rfl, TV.exc, ⟨_, hx⟩, .ref CW, .ref CW, false, rfl, fun u h => h, T2.vw, ?_⟩
      refine ⟨_, rfl, CV, dx, rfl, rfl, TV.exc, ⟨_, hx⟩, .ref CV, .ref CV, true, rfl, fun u h => h, T2.vv, ?_⟩
      refine ⟨(by show 2 ≤ sizeLine; decide), fun p3 hp3 => ?_⟩
      obtain ⟨J3, j3, S3, k3⟩ := mk (o := .lst ([.bl false, .bl true] : List V)) hp3
      rw [j3]
      refine ⟨_, rfl, (by show 5 ≤ sizeLine; decide), fun p4 hp4 => ?_⟩
      obtain ⟨J4, j4, S4, k4⟩ := mk (o := .tup ([.ref CN, .ref CS, .ty "LookupError", .ty "RuntimeError", .ty "ArithmeticError"] : List V)) hp4
      rw [j4]
      have hx4 := S4 _ _ (S3 _ _ hx)
      have k34 := S4 _ _ k3
      refine ⟨CV, dx, p4, _, _, false, rfl, rfl, TV.exc, ⟨_, hx4⟩, rfl, SqT.of k4, fun us h => vals5 h, T2.vA, ?_⟩
      refine ⟨_, rfl, .inl ⟨rfl, _, SqL.of k34⟩, p3, [false, true], true, rfl, rfl, SqL.of k34, rfl, _, rfl, ?_⟩
      refine iteT ⟨_, rfl, _, rfl, ?_⟩
      refine iteT ⟨_, rfl, CV, dx, rfl, rfl, TV.exc, ⟨_, hx4⟩, .ty "ValueError", .type "ValueError", true, rfl, fun u h => h, T2.vE, _, rfl, ?_⟩
      refine iteT ⟨(by show 2 ≤ sizeLine; decide), fun p5 hp5 => ?_⟩
      obtain ⟨J5, j5, S5, k5⟩ := mk (o := .lst ([.str "window", .str "version"] : List V)) hp5
      rw [j5]
      have k35 := S5 _ _ k34
      have hx5 := S5 _ _ hx4
      have S25 := (S3.trans S4).trans S5
      refine ⟨_, rfl, .inl ⟨rfl, _, SqL.of k35⟩, p3, _, .bl true, 1, .bl true, rfl, rfl, SqL.of k35, rfl, rfl, rfl, rfl, (fun m z hm hz => by cases (show m = 0 by omega); cases hz; rfl), p5, _, _, _, rfl, rfl, SqL.of k5, rfl, ?_⟩
      refine ⟨CV, TV.xf, TV.no, _, rfl, rfl, rfl, dx, _, v, rfl, hx5, rfl, _, dv, rfl, hd.mono S25, hs, (by show 2 ≤ sizeLine; decide), fun p6 hp6 np6 => ?_⟩
      exact ⟨_, rfl, qq p6 _ (S25.trans (new_same hp6)) (S25.free hp6) np6 upd_same⟩
  · exact ⟨(by show 2 ≤ sizeLine; decide), fun p hp np => ⟨_, rfl, hyp p _ (new_same hp) hp np upd_same⟩⟩
end
end N2
set_option maxHeartbeats 4000000
namespace N2
open PySem PySem.Spec PyProof.Rows L2 G N4 LamX
/-- p is none of the places that hold something other than a table -/
def Off (H : Hp) (p : Addr) : Prop := ∀ b o, H b = some o → (∀ ps, o ≠ .tbl ps) → b ≠ p
theorem Off.of {H J : Hp} {p : Addr} (e : ExtN H J) (h : J p = none) : Off H p := fun b o hb nb z => by
  have := e b o hb nb
  rw [z, h] at this
  cases this
theorem tabs_put {T : List (Addr × Str)} {r : Addr} {H : Hp} {xs ys : List V} (t : Tabs T H) (hr : H r = some (.lst xs)) : Tabs T (upd H r (.lst ys)) := by
  intro p hp
  obtain ⟨ps, h1, h2, h3⟩ := t p hp
  have n1 : p.1 ≠ r := fun z => by
    rw [z, hr] at h1
    cases h1
  refine ⟨ps, by rw [upd_ne n1]; exact h1, h2, fun pos cv hc => ?_⟩
  obtain ⟨c, e1, e2⟩ := h3 pos cv hc
  have n2 : c ≠ r := fun z => by
    rw [z, hr] at e2
    unfold CodeO at e2
    cases e2
  exact ⟨c, e1, by rw [upd_ne n2]; exact e2⟩
def dueCV (d1 d2 : PyData) : List V := if winB d1 = false then [.str "window", .str d1.shown] else
  if verB d2 = false then [.str "version", .str d2.shown] else [.str "returned", .bl (conD d1 d2)]
def dueRV (d1 d2 : PyData) : List V := if winB d1 = false then [.str "window", .str d1.shown] else
  if winB d2 = false then [.str "window", .str d2.shown] else [.str "returned", .bl (risD d1 d2)]
theorem dueC_da {H : Hp} {p : Addr} {d1 d2 : PyData} (np : p ≠ sysModules) (h : H p = some (.lst (dueCV d1 d2))) : Da H (.ref p) (dueC d1 d2) := by
  unfold dueCV at h
  unfold dueC
  split at h
  · rename_i e
    rw [if_pos e]
    exact .lst np h (.cons (.str _) (.cons (.str _) .nil))
  · rename_i e
    rw [if_neg e]
    split at h
    · rename_i e2
      rw [if_pos e2]
      exact .lst np h (.cons (.str _) (.cons (.str _) .nil))
    · rename_i e2
      rw [if_neg e2]
      exact .lst np h (.cons (.str _) (.cons (.bl _) .nil))
theorem dueR_da {H : Hp} {p : Addr} {d1 d2 : PyData} (np : p ≠ sysModules) (h : H p = some (.lst (dueRV d1 d2))) : Da H (.ref p) (dueR d1 d2) := by
  unfold dueRV at h
  unfold dueR
  split at h
  · rename_i e
    rw [if_pos e]
    exact .lst np h (.cons (.str _) (.cons (.str _) .nil))
  · rename_i e
    rw [if_neg e]
    split at h
    · rename_i e2
      rw [if_pos e2]
      exact .lst np h (.cons (.str _) (.cons (.str _) .nil))
    · rename_i e2
      rw [if_neg e2]
      exact .lst np h (.cons (.str _) (.cons (.bl _) .nil))
section
variable {T : List (Addr × Str)} {CW CV : Addr} {σ : L2.St} {H : Hp} {Q : VK} {v1 v2 : V} {d1 d2 : PyData} {i j : Nat}
theorem run_cont (hT : Tabs T H) (h1 : Da H v1 d1) (h2 : Da H v2 d2) (s1 : Shw d1) (s2 : Shw d2) (hi : σ[i]? = some (some v1)) (hj : σ[j]? = some (some v2))
    (q : ∀ p H', ExtN H H' → Tabs T H' → Off H p → p ≠ sysModules → H' p = some (.lst (dueCV d1 d2)) → Q (.ref p) H') :
    tLam T (TT2 CW CV) (fun E => tCall (spCont CW CV) [] E (tCons (tVar i) (tCons (tVar j) tNil))) σ H Q := by
  refine ⟨hT, fun H1 e1 t1 => ?_⟩
  intro H0 S0 R S herr hok
  have e0 : ExtN H H0 := e1.trans (ExtN.same S0)
  have t0 : Tabs T H0 := t1.ext S0
  refine ⟨v1, hi, v2, hj, v1, v2, d1, d2, rfl, h1.monoN e0, h2.monoN e0, ?_, ?_, ?_⟩
  · intro w x hb hv ew ex
    refine hok _ _ fun p H' S' fr np k => q p H' (e0.trans (ExtN.same S')) (t0.ext S') (Off.of e0 fr) np ?_
    have n1 : ¬ winB d1 = false := by rw [hb]; decide
    have n2 : ¬ verB d2 = false := by rw [hv]; decide
    subst ew ex
    rw [dueCV, if_neg n1, if_neg n2, con_wD]
    exact k
  · intro hb dx hdx
    have S1 := new_same (o := .xd [("value", v1)]) hdx
    refine herr _ _ _ ⟨dx, v1, d1, "window", rfl, upd_same, (h1.monoN e0).mono S1, s1, .inl ⟨rfl, rfl⟩, fun p H' S' fr np k => ?_⟩
    have S2 := S1.trans S'
    refine q p H' (e0.trans (ExtN.same S2)) (t0.ext S2) (Off.of (e0.trans (ExtN.same S1)) fr) np ?_
    rw [dueCV, if_pos hb]
    exact k
  · intro hb hv dx hdx
    have S1 := new_same (o := .xd [("value", v2)]) hdx
    refine herr _ _ _ ⟨dx, v2, d2, "version", rfl, upd_same, (h2.monoN e0).mono S1, s2, .inr ⟨rfl, rfl⟩, fun p H' S' fr np k => ?_⟩
    have S2 := S1.trans S'
    refine q p H' (e0.trans (ExtN.same S2)) (t0.ext S2) (Off.of (e0.trans (ExtN.same S1)) fr) np ?_
    have n1 : ¬ winB d1 = false := by rw [hb]; decide
    rw [dueCV, if_neg n1, if_pos hv]
    exact k
theorem run_rise (hT : Tabs T H) (h1 : Da H v1 d1) (h2 : Da H v2 d2) (s1 : Shw d1) (s2 : Shw d2) (hi : σ[i]? = some (some v1)) (hj : σ[j]? = some (some v2))
    (q : ∀ p H', ExtN H H' → Tabs T H' → Off H p → p ≠ sysModules → H' p = some (.lst (dueRV d1 d2)) → Q (.ref p) H') :
    tLam T (TT2 CW CV) (fun E => tCall (spRises CW) [] E (tCons (tVar i) (tCons (tVar j) tNil))) σ H Q := by
  refine ⟨hT, fun H1 e1 t1 => ?_⟩
  intro H0 S0 R S herr hok
  have e0 : ExtN H H0 := e1.trans (ExtN.same S0)
  have t0 : Tabs T H0 := t1.ext S0
  refine ⟨v1, hi, v2, hj, v1, v2, d1, d2, rfl, h1.monoN e0, h2.monoN e0, ?_, ?_, ?_⟩
  · intro w x hb hv ew ex
    refine hok _ _ fun p H' S' fr np k => q p H' (e0.trans (ExtN.same S')) (t0.ext S') (Off.of e0 fr) np ?_
    have n1 : ¬ winB d1 = false := by rw [hb]; decide
    have n2 : ¬ winB d2 = false := by rw [hv]; decide
    subst ew ex
    rw [dueRV, if_neg n1, if_neg n2, ris_wD]
    exact k
  · intro hb dx hdx
    have S1 := new_same (o := .xd [("value", v1)]) hdx
    refine herr _ _ _ ⟨dx, v1, d1, "window", rfl, upd_same, (h1.monoN e0).mono S1, s1, .inl ⟨rfl, rfl⟩, fun p H' S' fr np k => ?_⟩
    have S2 := S1.trans S'
    refine q p H' (e0.trans (ExtN.same S2)) (t0.ext S2) (Off.of (e0.trans (ExtN.same S1)) fr) np ?_
    rw [dueRV, if_pos hb]
    exact k
  · intro hb hv dx hdx
    have S1 := new_same (o := .xd [("value", v2)]) hdx
    refine herr _ _ _ ⟨dx, v2, d2, "window", rfl, upd_same, (h2.monoN e0).mono S1, s2, .inl ⟨rfl, rfl⟩, fun p H' S' fr np k => ?_⟩
    have S2 := S1.trans S'
    refine q p H' (e0.trans (ExtN.same S2)) (t0.ext S2) (Off.of (e0.trans (ExtN.same S1)) fr) np ?_
    have n1 : ¬ winB d1 = false := by rw [hb]; decide
    rw [dueRV, if_neg n1, if_pos hv]
    exact k
end
theorem okB2 (b : Bool) : Ok2 5 0 (.bool b) := by cases b <;> exact ⟨rfl, Nat.le_refl _, by decide +kernel⟩
theorem in2 {n k : Nat} {a b : PyData} (ha : Ok2 n k a) (hb : Ok2 n k b) : ∀ d ∈ [a, b], Ok2 n k d := by
  intro d hd
  simp only [List.mem_cons, List.not_mem_nil, or_false] at hd
  rcases hd with rfl | rfl
  · exact ha
  · exact hb
theorem in3 {n k : Nat} {a b c : PyData} (ha : Ok2 n k a) (hb : Ok2 n k b) (hc : Ok2 n k c) : ∀ d ∈ [a, b, c], Ok2 n k d := by
  intro d hd
  simp only [List.mem_cons, List.not_mem_nil, or_false] at hd
  rcases hd with rfl | rfl | rfl
  · exact ha
  · exact hb
  · exact hc
theorem okTxt {n : Nat} {a : Str} {d : PyData} (h : Ok3 n 20 d) (ha : Ok2 12 0 (.str a)) : Ok2 (20 * n + 60) 1 (txt2 a (.str d.shown)) :=
  (ok2_list (in2 (ha.mono (n' := 10 * n + 20) (by omega) (Nat.le_refl _)) ((ok2_str h.2 h.1.2.2).mono (by omega) (Nat.le_refl _)))).mono (by simp only [List.length_cons, List.length_nil]; omega) (Nat.le_refl _)
theorem okRet {n : Nat} (b : Bool) : Ok2 (20 * n + 60) 1 (txt2 "returned" (.bool b)) :=
  (ok2_list (in2 (n := 12) (k := 0) ⟨rfl, Nat.le_refl _, by decide +kernel⟩ ((okB2 b).mono (by decide) (Nat.le_refl _)))).mono (by simp only [List.length_cons, List.length_nil]; omega) (Nat.le_refl _)
theorem okC {n : Nat} {d1 d2 : PyData} (h1 : Ok3 n 20 d1) (h2 : Ok3 n 20 d2) : Ok2 (20 * n + 60) 1 (dueC d1 d2) := by
  unfold dueC
  split
  · exact okTxt h1 ⟨rfl, Nat.le_refl _, by decide +kernel⟩
  · split
    · exact okTxt h2 ⟨rfl, Nat.le_refl _, by decide +kernel⟩
    · exact okRet _
theorem okR {n : Nat} {d1 d2 : PyData} (h1 : Ok3 n 20 d1) (h2 : Ok3 n 20 d2) : Ok2 (20 * n + 60) 1 (dueR d1 d2) := by
  unfold dueR
  split
  · exact okTxt h1 ⟨rfl, Nat.le_refl _, by decide +kernel⟩
  · split
    · exact okTxt h2 ⟨rfl, Nat.le_refl _, by decide +kernel⟩
    · exact okRet _
def spPair (T : List (Addr × Str)) : Sp := fun vs H Q _ => ∃ (v1 v2 v3 : V) (d1 d2 d3 : PyData), vs = [v1, v2, v3] ∧ Da H v1 d1 ∧ Da H v2 d2 ∧ Da H v3 d3 ∧
  Ok3 2000 20 d1 ∧ Ok3 2000 20 d2 ∧ Ok3 2000 20 d3 ∧ Tabs T H ∧ ∀ H', ExtN H H' → Tabs T H' → Q (.bl true) H'
abbrev NP : List Str := ["_law_one", "_law_other", "_law_version", "_law_kept", "_law_told_here", "_law_due"]
section
variable {P : Program} {w : World} {K : PySem.W.Frag} {mg : Str → Option Value} {base : Heap}
theorem scPa : FnScope NP ["_law_one", "_law_other", "_law_version"] (defScope sPair) :=
  ⟨rfl, rfl, rfl, by decide +kernel, rfl, by decide +kernel, by decide +kernel⟩
abbrev qL : Str := (envOfC "_law_pair_right" (defScope sPair) 0 0 .none).qual ++ "<lambda>"
theorem ok_pair {f cP tP fW fL fT fC fR fQ fS CG CN CS CW CV : Addr} {fdW fdL fdC fdR fdQ fdS : FuncData} {dV kV dc pm ct oc dV2 kV2 dc2 pm2 cdT ct2 oc2 : Value} {an od an2 od2 : Option Addr} {sl sl2 : Array (Option Value)}
    (lk : K.lookup f = some ⟨oc, od, .func (PySem.W.fnOf "_law_pair_right" "_law_pair_right" (defArgs sPair) (defBody sPair) (defScope sPair) dV kV dc pm an (.ref cP) ct), sl⟩)
    (hcd : PySem.W.codeIn K (.ref cP) "_law_pair_right" = true) (T : Txt mg) (T2 : Two K mg CG CN CS CW CV)
    (TW : XCls P w K mg base "InvalidWindow" CW "value" "value") (TV : XCls P w K mg base "InvalidVersion" CV "value" "value")
    (lkT : K.lookup fT = some ⟨oc2, od2, .func (PySem.W.fnOf "_law_told" "_law_told" (defArgs sTold) (defBody sTold) (defScope sTold) dV2 kV2 dc2 pm2 an2 cdT ct2), sl2⟩)
    (hcT : PySem.W.codeIn K cdT "_law_told" = true) (kT : PySem.W.keepIn K (.ref fT) = true) (gT : mg "_law_told" = some (.ref fT))
    (bT : Binds K (PySem.W.fnOf "_law_told" "_law_told" (defArgs sTold) (defBody sTold) (defScope sTold) dV2 kV2 dc2 pm2 an2 cdT ct2) ["_law_call"] [])
    (TB : TabB base mg cP tP)
    (GW : FnOk P w K mg base CX0 2 fW fdW ["value"] (spB winB)) (kW : PySem.W.keepIn K (.ref fW) = true) (bW : Binds K fdW ["value"] []) (gW : mg "is_window" = some (.ref fW))
    (GL : FnOk P w K mg base CX0 2 fL fdL ["_law_value"] (spB winB)) (kL : PySem.W.keepIn K (.ref fL) = true) (bL : Binds K fdL ["_law_value"] []) (gL : mg "_law_is_window" = some (.ref fL))
    (GC : FnOk P w K mg base (L2.CX P w) 4 fC fdC ["window", "version"] (spCont CW CV)) (kC : PySem.W.keepIn K (.ref fC) = true) (bC : Binds K fdC ["window", "version"] []) (gC : mg "contains" = some (.ref fC))
    (GR : FnOk P w K mg base (L2.CX P w) 4 fR fdR ["first", "second"] (spRises CW)) (kR : PySem.W.keepIn K (.ref fR) = true) (bR : Binds K fdR ["first", "second"] []) (gR : mg "rises" = some (.ref fR))
    (GQ : FnG P w K mg base CX0 3 fQ fdQ ["_law_window_here", "_law_version"] (spDue dueC)) (kQ : PySem.W.keepIn K (.ref fQ) = true) (bQ : Binds K fdQ ["_law_window_here", "_law_version"] []) (gQ : mg "_law_contains_due" = some (.ref fQ))
    (GS : FnG P w K mg base CX0 3 fS fdS ["_law_one", "_law_other"] (spDue dueR)) (kS : PySem.W.keepIn K (.ref fS) = true) (bS : Binds K fdS ["_law_one", "_law_other"] []) (gS : mg "_law_rises_due" = some (.ref fS)) :
    FnG P w K mg base CX0 7 f (PySem.W.fnOf "_law_pair_right" "_law_pair_right" (defArgs sPair) (defBody sPair) (defScope sPair) dV kV dc pm an (.ref cP) ct) ["_law_one", "_law_other", "_law_version"] (spPair [(tP, qL)]) := by
  refine fn_ofG lk hcd scPa (fun vs H Q E h => ?_) (fun A outer s H vs Q E gd hr h => ?_)
  · obtain ⟨v1, v2, v3, d1, d2, d3, rfl, _⟩ := h
    rfl
  · obtain ⟨v1, v2, v3, d1, d2, d3, rfl, h1, h2, h3, o1, o2, o3, tb, q⟩ := h
    have hrW : Room 2 _ := hr.mono (by decide)
    have hrL : Room 2 _ := hr.mono (by decide)
    have hr3 : Room 3 _ := hr.mono (by decide)
    have hu : (A.deeper (envOfC "_law_pair_right" (defScope sPair) s.heap.objs.size f (.ref cP))).units + 200 < cLine := by have := hr.un; omega
    have body : ∃ t, PSs (cxOf CX0 P w K mg base NP "_law_pair_right" (defScope sPair) f (.ref cP) A outer s H E).nox (defBody sPair) t ∧
        t { nx := fun _ J => Q .non J, rt := Q } (start NP [v1, v2, v3]) H := by
      refine ⟨_, pss_cons (ps_set (i := 3) scPa.nd rfl (Or.inl rfl) (pe_callB (call_repS gd hr.units) (by rfl) T.repr (by decide +kernel) (pa_cons (pe_lstS (pa_cons (pv 0) (pa_cons (pv 1) (pa_cons (pv 2) pa_nil)))) pa_nil)))
        (pss_cons (ps_if (pt_cmpR op_ne (pe_callB (call_repS gd hr.units) (by rfl) T.repr (by decide +kernel) (pa_cons (pe_lstS (pa_cons (pe_call GW hrW (by rfl) gW kW bW .nil pass0 (pa_cons (pv 0) pa_nil)) (pa_cons (pe_call GW hrW (by rfl) gW kW bW .nil pass0 (pa_cons (pv 1) pa_nil)) pa_nil))) pa_nil)) (pe_callB (call_repS gd hr.units) (by rfl) T.repr (by decide +kernel) (pa_cons (pe_lstS (pa_cons (pe_call GL hrL (by rfl) gL kL bL .nil pass0 (pa_cons (pv 0) pa_nil)) (pa_cons (pe_call GL hrL (by rfl) gL kL bL .nil pass0 (pa_cons (pv 1) pa_nil)) pa_nil))) pa_nil)) (nomark _)) (pss_one (ps_ret pe_bl)) pss_nil)
        (pss_cons (ps_set (i := 4) scPa.nd rfl (Or.inl rfl) (pe_lstS (pa_cons (pe_lamS (T := [(tP, qL)]) (TT := TT2 CW CV) (Ng := NT) (k := 4) (t := fun E => tCall (spCont CW CV) [] E (tCons (tVar 0) (tCons (tVar 2) tNil))) (by rfl) gT kT lkT hcT bT scTo rfl (.inl rfl) (told_gives gd hu T T2 TW TV) TB rfl (List.mem_singleton.2 rfl) (fun p hp _ => by rw [List.mem_singleton.1 hp]; rfl) hr (lamS_by (sc := defScope sPair) (by decide +kernel)) (by rfl) (fun _ _ _ _ _ => by rfl)
            (fun A ou s H E f c' _ hrl => pe_call GC hrl (by rfl) gC kC bC .nil lam_pass (pa_cons (pv 0) (pa_cons (pv 2) pa_nil)))) pa_nil)))
        (pss_cons (ps_expr (pe_bm PySem.F.plainAttrs_list PySem.F.slot_list_append PySem.F.type_list_append mt_append (pv 4) (pa_cons (pe_lamS (T := [(tP, qL)]) (TT := TT2 CW CV) (Ng := NT) (k := 4) (t := fun E => tCall (spRises CW) [] E (tCons (tVar 0) (tCons (tVar 1) tNil))) (by rfl) gT kT lkT hcT bT scTo rfl (.inl rfl) (told_gives gd hu T T2 TW TV) TB rfl (List.mem_singleton.2 rfl) (fun p hp _ => by rw [List.mem_singleton.1 hp]; rfl) hr (lamS_by (sc := defScope sPair) (by decide +kernel)) (by rfl) (fun _ _ _ _ _ => by rfl)
            (fun A ou s H E f c' _ hrl => pe_call GR hrl (by rfl) gR kR bR .nil lam_pass (pa_cons (pv 0) (pa_cons (pv 1) pa_nil)))) pa_nil)))
        (pss_cons (ps_expr (pe_bm PySem.F.plainAttrs_list PySem.F.slot_list_append PySem.F.type_list_append mt_append (pv 4) (pa_cons (pe_lamS (T := [(tP, qL)]) (TT := TT2 CW CV) (Ng := NT) (k := 4) (t := fun E => tCall (spRises CW) [] E (tCons (tVar 1) (tCons (tVar 0) tNil))) (by rfl) gT kT lkT hcT bT scTo rfl (.inl rfl) (told_gives gd hu T T2 TW TV) TB rfl (List.mem_singleton.2 rfl) (fun p hp _ => by rw [List.mem_singleton.1 hp]; rfl) hr (lamS_by (sc := defScope sPair) (by decide +kernel)) (by rfl) (fun _ _ _ _ _ => by rfl)
            (fun A ou s H E f c' _ hrl => pe_call GR hrl (by rfl) gR kR bR .nil lam_pass (pa_cons (pv 1) (pa_cons (pv 0) pa_nil)))) pa_nil)))
        (pss_cons (ps_set (i := 5) scPa.nd rfl (Or.inl rfl) (pe_lstS (pa_cons (pe_callG GQ gd hr3 (by rfl) gQ kQ bQ .nil pass0 (pa_cons (pv 0) (pa_cons (pv 2) pa_nil))) (pa_cons (pe_callG GS gd hr3 (by rfl) gS kS bS .nil pass0 (pa_cons (pv 0) (pa_cons (pv 1) pa_nil))) (pa_cons (pe_callG GS gd hr3 (by rfl) gS kS bS .nil pass0 (pa_cons (pv 1) (pa_cons (pv 0) pa_nil))) pa_nil)))))
        (pss_one (ps_ret (pe_and (pe_cmpR op_eq (pe_callB (call_repS gd hr.units) (by rfl) T.repr (by decide +kernel) (pa_cons (pv 4) pa_nil)) (pe_callB (call_repS gd hr.units) (by rfl) T.repr (by decide +kernel) (pa_cons (pv 5) pa_nil)) (nomark _)) (pe_one (pe_cmpR op_eq (pe_callB (call_repS gd hr.units) (by rfl) T.repr (by decide +kernel) (pa_cons (pe_lstS (pa_cons (pv 0) (pa_cons (pv 1) (pa_cons (pv 2) pa_nil)))) pa_nil)) (pv 3) (nomark _))))))))))), ?_⟩
      have n2 : 2000 ≤ 12000000 := by decide
      have n3 : 20 ≤ 60 := by decide
      have s1 : Shw d1 := o1.1.shw n2 n3
      have s2 : Shw d2 := o2.1.shw n2 n3
      have s3 : Shw d3 := o3.1.shw n2 n3
      have sAll : Shw (.list [d1, d2, d3]) := (ok2_list (in3 o1.1 o2.1 o3.1)).shw (by show 3 * 2000 + 2 * 3 + 3 ≤ 12000000; decide) (by decide)
      have sB : Shw (.list [.bool (winB d1), .bool (winB d2)]) := (ok2_list (in2 (okB2 _) (okB2 _))).shw (by show 2 * 5 + 2 * 2 + 3 ≤ 12000000; decide) (by decide)
      have sD : Shw (.list [dueC d1 d3, dueR d1 d2, dueR d2 d1]) := (ok2_list (in3 (okC o1 o3) (okR o1 o2) (okR o2 o1))).shw (by show 3 * (20 * 2000 + 60) + 2 * 3 + 3 ≤ 12000000; decide) (by decide)
      refine ⟨_, rfl, _, rfl, _, rfl, (by show 3 ≤ sizeLine; decide), fun p1 hp1 np1 => ?_⟩
      obtain ⟨J1, j1, S1, k1⟩ := mk (o := .lst [v1, v2, v3]) hp1
      rw [j1]
      refine ⟨_, .list [d1, d2, d3], rfl, .lst np1 k1 (.cons (h1.mono S1) (.cons (h2.mono S1) (.cons (h3.mono S1) .nil))), sAll, ?_⟩
      refine ⟨_, rfl, v1, d1, rfl, h1.mono S1, _, rfl, v2, d2, rfl, h2.mono S1, (by show 2 ≤ sizeLine; decide), fun p2 hp2 np2 => ?_⟩
      obtain ⟨J2, j2, S2, k2⟩ := mk (o := .lst [V.bl (winB d1), V.bl (winB d2)]) hp2
      rw [j2]
      refine ⟨_, .list [.bool (winB d1), .bool (winB d2)], rfl, .lst np2 k2 (.cons (.bl _) (.cons (.bl _) .nil)), sB, ?_⟩
      have S02 := S1.trans S2
      refine ⟨_, rfl, v1, d1, rfl, h1.mono S02, _, rfl, v2, d2, rfl, h2.mono S02, (by show 2 ≤ sizeLine; decide), fun p3 hp3 np3 => ?_⟩
      obtain ⟨J3, j3, S3, k3⟩ := mk (o := .lst [V.bl (winB d1), V.bl (winB d2)]) hp3
      rw [j3]
      have S03 := S02.trans S3
      refine ⟨_, .list [.bool (winB d1), .bool (winB d2)], rfl, .lst np3 k3 (.cons (.bl _) (.cons (.bl _) .nil)), sB, rfl, _, rfl, ?_⟩
      rw [decide_eq_true rfl]
      refine iteF ?_
      refine run_cont (tb.ext S03) (h1.mono S03) (h3.mono S03) s1 s3 rfl rfl (fun p4 J4 e4 t4 f4 np4 k4 => ?_)
      have N04 : ExtN H J4 := (ExtN.same S03).trans e4
      refine ⟨(by show 1 ≤ sizeLine; decide), fun p5 hp5 np5 => ?_⟩
      obtain ⟨J5, j5, S5, k5⟩ := mk (o := .lst [V.ref p4]) hp5
      rw [j5]
      have N05 : ExtN H J5 := N04.trans (ExtN.same S5)
      have n45 : p4 ≠ p5 := ne_of_none k4 hp5
      refine ⟨_, rfl, .inl ⟨rfl, _, SqL.of k5⟩, ?_⟩
      refine run_rise (t4.ext S5) (h1.monoN N05) (h2.monoN N05) s1 s2 rfl rfl (fun p6 J6 e6 t6 f6 np6 k6 => ?_)
      have k56 := e6 _ _ k5 ntL
      have n65 : p5 ≠ p6 := f6 _ _ k5 ntL
      refine ⟨p5, _, _, rfl, rfl, k56, (by show 1 < sizeLine; decide), ?_⟩
      obtain ⟨J7, j7⟩ : ∃ J, upd J6 p5 (.lst ([V.ref p4] ++ [V.ref p6])) = J := ⟨_, rfl⟩
      rw [j7]
      have t7 : Tabs [(tP, qL)] J7 := by
        rw [← j7]
        exact tabs_put t6 k56
      have N47 : ExtN J4 J7 := fun b o hb nb => by
        rw [← j7, upd_ne (ne_of_none hb hp5)]
        exact e6 _ _ (S5 _ _ hb) nb
      have N07 : ExtN H J7 := N04.trans N47
      have k47 : J7 p4 = some (.lst (dueCV d1 d3)) := N47 _ _ k4 ntL
      have k67 : J7 p6 = some (.lst (dueRV d1 d2)) := by
        rw [← j7, upd_ne n65.symm]
        exact k6
      have k57 : J7 p5 = some (.lst [.ref p4, .ref p6]) := by
        rw [← j7]
        exact upd_same
      refine ⟨_, rfl, .inl ⟨rfl, _, SqL.of k57⟩, ?_⟩
      refine run_rise t7 (h2.monoN N07) (h1.monoN N07) s2 s1 rfl rfl (fun p8 J8 e8 t8 f8 np8 k8 => ?_)
      have k58 := e8 _ _ k57 ntL
      have n85 : p5 ≠ p8 := f8 _ _ k57 ntL
      refine ⟨p5, _, _, rfl, rfl, k58, (by show 2 < sizeLine; decide), ?_⟩
      obtain ⟨J9, j9⟩ : ∃ J, upd J8 p5 (.lst ([V.ref p4, V.ref p6] ++ [V.ref p8])) = J := ⟨_, rfl⟩
      rw [j9]
      have t9 : Tabs [(tP, qL)] J9 := by
        rw [← j9]
        exact tabs_put t8 k58
      have N09 : ExtN H J9 := fun b o hb nb => by
        rw [← j9, upd_ne (ne_of_none (N04 b o hb nb) hp5)]
        exact e8 _ _ (N07 b o hb nb) nb
      have k49 : J9 p4 = some (.lst (dueCV d1 d3)) := by
        rw [← j9, upd_ne n45]
        exact e8 _ _ k47 ntL
      have k69 : J9 p6 = some (.lst (dueRV d1 d2)) := by
        rw [← j9, upd_ne n65.symm]
        exact e8 _ _ k67 ntL
      have k89 : J9 p8 = some (.lst (dueRV d2 d1)) := by
        rw [← j9, upd_ne n85.symm]
        exact k8
      have k59 : J9 p5 = some (.lst [.ref p4, .ref p6, .ref p8]) := by
        rw [← j9]
        exact upd_same
      have dT : Da J9 (.ref p5) (.list [dueC d1 d3, dueR d1 d2, dueR d2 d1]) :=
        .lst np5 k59 (.cons (dueC_da np4 k49) (.cons (dueR_da np6 k69) (.cons (dueR_da np8 k89) .nil)))
      have g1 := h1.monoN N09
      have g2 := h2.monoN N09
      have g3 := h3.monoN N09
      refine ⟨_, rfl, _, rfl, v1, v3, d1, d3, rfl, g1, g3, s1, s3, fun pa Ja Sa da => ?_⟩
      refine ⟨_, rfl, _, rfl, v1, v2, d1, d2, rfl, g1.mono Sa, g2.mono Sa, s1, s2, fun pb Jb Sb db => ?_⟩
      have Sab := Sa.trans Sb
      refine ⟨_, rfl, _, rfl, v2, v1, d2, d1, rfl, g2.mono Sab, g1.mono Sab, s2, s1, fun pc Jc Sc dc => ?_⟩
      refine ⟨(by show 3 ≤ sizeLine; decide), fun pd hpd npd => ?_⟩
      obtain ⟨Jd, jd, Sd, kd⟩ := mk (o := .lst [V.ref pa, V.ref pb, V.ref pc]) hpd
      rw [jd]
      have S9d := (Sab.trans Sc).trans Sd
      refine ⟨_, rfl, _, _, rfl, dT.mono S9d, sD, _, rfl, _, _, rfl, .lst npd kd (.cons (da.mono ((Sb.trans Sc).trans Sd)) (.cons (db.mono (Sc.trans Sd)) (.cons (dc.mono Sd) .nil))), sD, rfl, _, rfl, ?_⟩
      rw [decide_eq_true rfl]
      refine iteT ?_
      refine ⟨_, rfl, _, rfl, _, rfl, (by show 3 ≤ sizeLine; decide), fun pe hpe npe => ?_⟩
      obtain ⟨Je, je, Se, ke⟩ := mk (o := .lst [v1, v2, v3]) hpe
      rw [je]
      have S9e := S9d.trans Se
      refine ⟨_, .list [d1, d2, d3], rfl, .lst npe ke (.cons (g1.mono S9e) (.cons (g2.mono S9e) (.cons (g3.mono S9e) .nil))), sAll, _, rfl, rfl, ?_⟩
      rw [decide_eq_true rfl]
      exact q Je (N09.trans (ExtN.same S9e)) (t9.ext S9e)
    obtain ⟨t, p, rd⟩ := body
    exact ⟨t, p.nox, rd⟩
end
end N2
set_option maxHeartbeats 4000000
namespace N2
open PySem PySem.Spec PyProof.Rows L2 G N4 LamX
def nn : Nat → Nat
  | 0 => 120
  | i + 1 => 3 * nn i + 9
theorem nn60 : ∀ i, 60 ≤ nn i
  | 0 => by decide
  | i + 1 => by
    have := nn60 i
    show 60 ≤ 3 * nn i + 9
    omega
theorem nn2 {i : Nat} (h : i ≤ 2) : nn i ≤ 2000 := by
  match i, h with
  | 0, _ => decide
  | 1, _ => decide
  | 2, _ => decide
theorem da_win {J : Hp} {r t : Addr} {w : Wn} (R : Rng J r) (wt : WinAt J t w) : Da (hide r J) (.ref t) (wD w) :=
  WinAt.da (hide_get (R.ne wt (fun _ _ z => by cases z)) wt)
theorem hd_win {w : Wn} (h : Wb 30000000000000000000000000000000000000010 w) : Hd 120 2 (wD w) := by
  obtain ⟨l, o⟩ := w
  obtain ⟨l0, l1, lh⟩ := h
  have l0 : 0 ≤ l := l0
  have l1 : l < 30000000000000000000000000000000000000010 := l1
  have a1 : Ok3 45 0 (.int l) := ok3_int l0 (by omega) (by decide) (by decide)
  have a2 : Ok3 45 0 (hD o) := by
    cases o with
    | none => exact ok3_by (by decide +kernel)
    | some x =>
      have e := lh x rfl
      have e1 : l ≤ x := e.1
      have e2 : x < 30000000000000000000000000000000000000010 := e.2
      exact ok3_int (by omega) (by omega) (by decide) (by decide)
  refine ⟨(ok3_tup (two a1 a2)).mono (by show 2 * 45 + 2 * 2 + 3 ≤ 120; decide) (by decide), fun a b e => ?_⟩
  simp only [wD, PyData.tuple.injEq, List.cons.injEq, and_true] at e
  obtain ⟨rfl, rfl⟩ := e
  exact ⟨a1.mono (by decide) (by decide), a2.mono (by decide) (by decide)⟩
/-- the ends of a window, and beside them -/
def EsOk (es : List V) : Prop := (∃ e0 es', es = .int e0 :: es') ∧ (∀ v ∈ es, ∃ x : Int, v = .int x ∧ 0 ≤ x ∧ x < 1000000000000000000000000000000000000000000) ∧ 3 ≤ es.length ∧ es.length ≤ 6
theorem EsOk.ne {es : List V} (h : EsOk es) {J : Hp} {r pe : Addr} (R : Rng J r) (k : J pe = some (.lst es)) : pe ≠ r :=
  R.ne k fun a b z => by
    cases z
    exact absurd h.2.2.1 (by show ¬ 3 ≤ 2; decide)
def spLaw (K : PySem.W.Frag) (T : List (Addr × Str)) : Sp := fun vs H Q _ => ∃ (a : Addr) (ns : List Int), vs = [.ref a] ∧
  SqL K H a (ns.map V.int) ∧ ns.length ≤ 63 ∧ Tabs T H ∧ ∀ H', Q (.bl true) H'
abbrev NL : List Str := ["_law_script", "_law_k", "_law_rng_here", "_law_turn", "_law_one", "_law_other", "_law_ends", "_law_odd", "_law_change"]
section
variable {P : Program} {w : World} {K : PySem.W.Frag} {mg : Str → Option Value} {base : Heap}
theorem scL : FnScope NL ["_law_script"] (defScope sLaw) :=
  ⟨rfl, rfl, rfl, by decide +kernel, rfl, by decide +kernel, by decide +kernel⟩
theorem ok_law {f fG fD fC fW fN fH fP : Addr} {fd fdG fdD fdC fdW fdN fdH fdP : FuncData} {tb : List (Addr × Str)} (F : Fun K "law" "law" sLaw f fd) (T : Txt mg)
    (GG : FnOk P w K mg base CX0 1 fG fdG ["_law_script", "_law_k"] (spRng K)) (kG : PySem.W.keepIn K (.ref fG) = true) (bG : Binds K fdG ["_law_script", "_law_k"] []) (gG : mg "_law_rng" = some (.ref fG))
    (GD : FnOk P w K mg base CX0 1 fD fdD ["_law_rng_here", "_law_many"] spDraw) (kD : PySem.W.keepIn K (.ref fD) = true) (bD : Binds K fdD ["_law_rng_here", "_law_many"] []) (gD : mg "_law_draw" = some (.ref fD))
    (GC : FnOk P w K mg base CX0 2 fC fdC ["_law_rng_here", "_law_options"] (spChoice K)) (kC : PySem.W.keepIn K (.ref fC) = true) (bC : Binds K fdC ["_law_rng_here", "_law_options"] []) (gC : mg "_law_choice" = some (.ref fC))
    (GW : FnOk P w K mg base CX0 2 fW fdW ["_law_rng_here"] spWind) (kW : PySem.W.keepIn K (.ref fW) = true) (bW : Binds K fdW ["_law_rng_here"] []) (gW : mg "_law_window" = some (.ref fW))
    (GN : FnOk P w K mg base CX0 3 fN fdN ["_law_rng_here", "_law_window_here"] spNear) (kN : PySem.W.keepIn K (.ref fN) = true) (bN : Binds K fdN ["_law_rng_here", "_law_window_here"] []) (gN : mg "_law_near" = some (.ref fN))
    (GH : FnOk P w K mg base CX0 3 fH fdH ["_law_rng_here", "_law_value"] spChg) (kH : PySem.W.keepIn K (.ref fH) = true) (bH : Binds K fdH ["_law_rng_here", "_law_value"] []) (gH : mg "_law_changed" = some (.ref fH))
    (GP : FnG P w K mg base CX0 7 fP fdP ["_law_one", "_law_other", "_law_version"] (spPair tb)) (kP : PySem.W.keepIn K (.ref fP) = true) (bP : Binds K fdP ["_law_one", "_law_other", "_law_version"] []) (gP : mg "_law_pair_right" = some (.ref fP)) :
    FnG P w K mg base CX0 8 f fd ["_law_script"] (spLaw K tb) := by
  refine okG F scL (fun vs H Q E h => ?_) (fun cdv A outer s H vs Q E gd hr h => ?_)
  · obtain ⟨a, ns, rfl, _⟩ := h
    rfl
  · obtain ⟨a, ns, rfl, hS, hlen, hT, q⟩ := h
    have hrG : Room 1 _ := hr.mono (by decide)
    have hrD : Room 1 _ := hr.mono (by decide)
    have hrC : Room 2 _ := hr.mono (by decide)
    have hrW : Room 2 _ := hr.mono (by decide)
    have hrN : Room 3 _ := hr.mono (by decide)
    have hrH : Room 3 _ := hr.mono (by decide)
    refine ⟨_, pss_cons (ps_for PassesOwn.never rfl (pi_range1 (by rfl) T.range (pa_cons
          (pe_callB (call_max2 rfl) (by rfl) T.max (by decide +kernel) (pa_cons pe_int (pa_cons
            (pe_callB (call_min2 rfl) (by rfl) T.min (by decide +kernel) (pa_cons pe_int (pa_cons (pe_callB call_len_seq (by rfl) T.len PySem.boot_len (pa_cons (pv 0) pa_nil)) pa_nil))) pa_nil))) pa_nil))
        (pg_name (i := 1) scL.nd rfl (Or.inl rfl))
        (pss_cons (ps_set (i := 2) scL.nd rfl (Or.inl rfl) (pe_call GG hrG (by rfl) gG kG bG .nil pass0 (pa_cons (pv 0) (pa_cons (pv 1) pa_nil))))
        (pss_one (ps_for PassesOwn.never rfl (pi_range1 (by rfl) T.range (pa_cons pe_int pa_nil)) (pg_name (i := 3) scL.nd rfl (Or.inl rfl))
          (pss_cons (ps_set (i := 4) scL.nd rfl (Or.inl rfl) (pe_call GW hrW (by rfl) gW kW bW .nil pass0 (pa_cons (pv 2) pa_nil)))
          (pss_cons (ps_par (by rfl) scL.nd (i := 5) (j := 6) rfl rfl (by decide) rfl rfl (pa_cons (pe_call GN hrN (by rfl) gN kN bN .nil pass0 (pa_cons (pv 2) (pa_cons (pv 4) pa_nil))) (pa_cons (pe_lst (pa_cons (pe_ix ix_tup (pv 4) pe_int (fun _ _ => rfl)) (pa_cons (pe_op op_add (pe_ix ix_tup (pv 4) pe_int (fun _ _ => rfl)) pe_int) (pa_cons (pe_callB (call_max2 rfl) (by rfl) T.max (by decide +kernel) (pa_cons pe_int (pa_cons (pe_op op_sub (pe_ix ix_tup (pv 4) pe_int (fun _ _ => rfl)) pe_int) pa_nil))) pa_nil)))) pa_nil)) (by rfl))
          (pss_cut (ps_if (pt_cmp (pc_notN (pe_ix ix_tup (pv 4) pe_int (fun _ _ => rfl)))) (pss_one (ps_set (i := 6) scL.nd rfl (Or.inl rfl) (pe_op op_cat (pv 6) (pe_lst (pa_cons (pe_ix ix_tup (pv 4) pe_int (fun _ _ => rfl)) (pa_cons (pe_op op_add (pe_ix ix_tup (pv 4) pe_int (fun _ _ => rfl)) pe_int) (pa_cons (pe_callB (call_max2 rfl) (by rfl) T.max (by decide +kernel) (pa_cons pe_int (pa_cons (pe_op op_sub (pe_ix ix_tup (pv 4) pe_int (fun _ _ => rfl)) pe_int) pa_nil))) pa_nil))))))) pss_nil)
          (pss_cons (ps_if (pt_not (pt_val (pe_callG GP gd hr (by rfl) gP kP bP .nil pass0 (pa_cons (pv 4) (pa_cons (pv 5) (pa_cons (pe_call GC hrC (by rfl) gC kC bC .nil pass0 (pa_cons (pv 2) (pa_cons (pv 6) pa_nil))) pa_nil)))))) (pss_one (ps_ret pe_bl)) pss_nil)
          (pss_cons (ps_set (i := 7) scL.nd rfl (Or.inl rfl) (pe_call GC hrC (by rfl) gC kC bC .nil pass0 (pa_cons (pv 2) (pa_cons (pe_lst (pa_cons pe_non (pa_cons pe_bl (pa_cons (pe_un un_neg pe_int) (pa_cons pe_str (pa_cons (pe_lstS pa_nil) (pa_cons (pe_tup pa_nil) (pa_cons pe_dnewK (pa_cons (pe_ix ix_list (pv 6) pe_int (fun _ _ => rfl)) pa_nil))))))))) pa_nil))))
          (pss_cons (ps_for PassesOwn.never rfl (pi_range1 (by rfl) T.range (pa_cons (pe_op op_add pe_int (pe_call GD hrD (by rfl) gD kD bD .nil pass0 (pa_cons (pv 2) (pa_cons pe_int pa_nil)))) pa_nil)) (pg_name (i := 8) scL.nd rfl (Or.inl rfl))
            (pss_one (ps_if (pt_cmpR op_eq (pe_call GD hrD (by rfl) gD kD bD .nil pass0 (pa_cons (pv 2) (pa_cons pe_int pa_nil))) pe_int (nomark _)) (pss_one (ps_set (i := 4) scL.nd rfl (Or.inl rfl) (pe_call GH hrH (by rfl) gH kH bH .nil pass0 (pa_cons (pv 2) (pa_cons (pv 4) pa_nil))))) (pss_one (ps_set (i := 5) scL.nd rfl (Or.inl rfl) (pe_call GH hrH (by rfl) gH kH bH .nil pass0 (pa_cons (pv 2) (pa_cons (pv 5) pa_nil))))))))
          (pss_one (ps_if (PW.pt (pw_or (pt_not (pt_val (pe_callG GP gd hr (by rfl) gP kP bP .nil pass0 (pa_cons (pv 4) (pa_cons (pv 5) (pa_cons (pv 7) pa_nil)))))) (pw_or1 (pt_not (pt_val (pe_callG GP gd hr (by rfl) gP kP bP .nil pass0 (pa_cons (pv 4) (pa_cons (pv 5) (pa_cons (pe_ix ix_list (pv 6) pe_int (fun _ _ => rfl)) pa_nil))))))))) (pss_one (ps_ret pe_bl)) pss_nil))))))))))))
      (pss_one (ps_ret pe_bl)), ?_⟩
    have hN : ∀ L : Int, 0 ≤ L → 0 ≤ (if (if L < 8 then L else 8) > 1 then (if L < 8 then L else 8) else 1) ∧
        (if (if L < 8 then L else 8) > 1 then (if L < 8 then L else 8) else 1) ≤ 10 := by
      intro L hL
      by_cases h1 : L < 8
      · rw [if_pos h1]
        split <;> omega
      · rw [if_neg h1]
        decide
    have hN2 := hN ((ns.map V.int).length : Nat) (by omega)
    refine ⟨_, rfl, a, _, rfl, .inl hS, _, _, rfl, _, _, rfl, _, rfl, by omega, by omega, ?_⟩
    generalize (if (if ((ns.map V.int).length : Int) < 8 then ((ns.map V.int).length : Int) else 8) > 1 then (if ((ns.map V.int).length : Int) < 8 then ((ns.map V.int).length : Int) else 8) else 1) = n at hN2
    refine for_range (lo := 0) (n := n.toNat) (fun i σ J => ∃ c1 c2 c3 c4 c5 c6 c7 c8, σ = [some (.ref a), c1, c2, c3, c4, c5, c6, c7, c8] ∧ SqL K J a (ns.map V.int) ∧ Tabs tb J) ⟨_, _, _, _, _, _, _, _, rfl, hS, hT⟩ ?_ ?_
    · rintro i σ J0 hi ⟨c1, c2, c3, c4, c5, c6, c7, c8, rfl, hS0, hT0⟩
      refine ⟨_, rfl, _, rfl, a, ns, _, rfl, hS0, by omega, by omega, fun r J1 fr S1 R1 => ?_⟩
      refine ⟨_, rfl, by decide, by decide, ?_⟩
      refine for_range (lo := 0) (n := 6) (fun i σ J => ∃ k c3 c4 c5 c6 c7 c8, σ = [some (.ref a), k, some (.ref r), c3, c4, c5, c6, c7, c8] ∧ ExtR r J0 J ∧ Rng J r ∧ Tabs tb J)
        ⟨_, _, _, _, _, _, _, rfl, fun b o _ _ h => S1 b o h, R1, hT0.ext S1⟩ ?_ ?_
      · rintro j σ J2 hj ⟨k, c3, c4, c5, c6, c7, c8, rfl, E2, R2, T2⟩
        refine ⟨_, rfl, r, rfl, R2, fun t ww J3 E3 R3 wt wb => ?_⟩
        refine ⟨_, rfl, _, rfl, r, t, ww, rfl, R3, wt, wb, fun t' ww' J4 E4 R4 wt' wb' => ?_⟩
        have wt4 : WinAt J4 t ww := E4 _ _ (R3.ne wt (fun _ _ z => by cases z)) wt
        have T4 : Tabs tb J4 := tabs_ext (tabs_ext T2 E3 R2) E4 R3
        have X4 : ExtR r J0 J4 := E2.trans (ExtR.ext (E3.trans E4))
        obtain ⟨l, o⟩ := ww
        obtain ⟨l0, l1, lh⟩ := wb
        have l0 : 0 ≤ l := l0
        have l1 : l < 30000000000000000000000000000000000000000 := l1
        have wbb : Wb 30000000000000000000000000000000000000010 (l, o) := ⟨l0, by show l < 30000000000000000000000000000000000000010; omega, fun x e => ⟨(lh x e).1, by have := (lh x e).2; omega⟩⟩
        refine ⟨_, rfl, t, _, _, _, rfl, rfl, SqT.of wt4, rfl, _, rfl, t, _, _, _, rfl, rfl, SqT.of wt4, rfl, _, _, rfl, rfl, _, rfl, t, _, _, _, rfl, rfl, SqT.of wt4, rfl, _, _, rfl, rfl, _, _, rfl, (by show 3 ≤ sizeLine; decide), fun p5 hp5 => ?_⟩
        obtain ⟨J5, j5, S5, U5, R5, k5, g5⟩ := stp (o := .lst ([.int l, .int (l + 1), .int (if l - 1 > 0 then l - 1 else 0)] : List V)) R4 hp5
        refine ⟨_, _, rfl, ?_⟩
        have j5' : upd J4 p5 (.lst [.int (l, o).1, .int ((l, o).1 + 1), .int (if (l, o).1 - 1 > 0 then (l, o).1 - 1 else 0)]) = J5 := j5
        rw [j5']
        have wt5 : WinAt J5 t (l, o) := S5 _ _ wt4
        have wt5' : WinAt J5 t' ww' := S5 _ _ wt'
        have T5 : Tabs tb J5 := T4.ext S5
        have X5 : ExtR r J0 J5 := X4.trans (ExtR.ext (Ext.of S5))
        have es5 : EsOk [.int l, .int (l + 1), .int (if l - 1 > 0 then l - 1 else 0)] := by
          refine ⟨⟨_, _, rfl⟩, ?_, (by show 3 ≤ 3; decide), (by show 3 ≤ 6; decide)⟩
          exact List.forall_mem_cons.2 ⟨⟨_, rfl, by omega, by omega⟩, List.forall_mem_cons.2 ⟨⟨_, rfl, by omega, by omega⟩, List.forall_mem_cons.2 ⟨⟨_, rfl, by split <;> omega, by split <;> omega⟩, fun v hv => by cases hv⟩⟩⟩
        refine ⟨fun σ J => ∃ (k c3 c7 c8 : Option V) (t t' pe : Addr) (w w' : Wn) (es : List V), σ = [some (.ref a), k, some (.ref r), c3, some (.ref t), some (.ref t'), some (.ref pe), c7, c8] ∧ ExtR r J0 J ∧ Rng J r ∧ Tabs tb J ∧
          WinAt J t w ∧ Wb 30000000000000000000000000000000000000010 w ∧ WinAt J t' w' ∧ Wb 30000000000000000000000000000000000000010 w' ∧ J pe = some (.lst es) ∧ EsOk es, ?_, ?_⟩
        rotate_left
        · refine ⟨_, rfl, t, _, _, _, rfl, rfl, SqT.of wt5, rfl, _, rfl, ?_⟩
          cases o with
          | none => exact iteF ⟨_, _, _, _, t, t', p5, (l, none), ww', _, rfl, X5, R5, T5, wt5, wbb, wt5', wb', k5, es5⟩
          | some h =>
            have lh' := lh h rfl
            have h0 : l ≤ h := lh'.1
            have h1 : h < 30000000000000000000000000000000000000000 := lh'.2
            refine iteT ⟨_, rfl, _, rfl, t, _, _, _, rfl, rfl, SqT.of wt5, rfl, _, rfl, t, _, _, _, rfl, rfl, SqT.of wt5, rfl, _, _, rfl, rfl, _, rfl, t, _, _, _, rfl, rfl, SqT.of wt5, rfl, _, _, rfl, rfl, _, _, rfl, (by show 3 ≤ sizeLine; decide), fun p6 hp6 => ?_⟩
            refine ⟨p5, p6, _, _, rfl, rfl, new_same hp6 _ _ k5, upd_same, (by show 6 ≤ sizeLine; decide), fun p7 hp7 => ?_⟩
            refine ⟨_, _, _, _, t, t', p7, (l, some h), ww', _, rfl, X5.trans (ExtR.ext ((Ext.new hp6).trans (Ext.new hp7))), (R5.new hp6).new hp7, (T5.ext (new_same hp6)).ext (new_same hp7),
              new_same hp7 _ _ (new_same hp6 _ _ wt5), wbb, new_same hp7 _ _ (new_same hp6 _ _ wt5'), wb', upd_same, ?_⟩
            show EsOk [.int l, .int (l + 1), .int (if l - 1 > 0 then l - 1 else 0), .int h, .int (h + 1), .int (if h - 1 > 0 then h - 1 else 0)]
            refine ⟨⟨_, _, rfl⟩, ?_, (by show 3 ≤ 6; decide), (by show 6 ≤ 6; decide)⟩
            exact List.forall_mem_cons.2 ⟨⟨_, rfl, by omega, by omega⟩, List.forall_mem_cons.2 ⟨⟨_, rfl, by omega, by omega⟩, List.forall_mem_cons.2 ⟨⟨_, rfl, by split <;> omega, by split <;> omega⟩,
              List.forall_mem_cons.2 ⟨⟨_, rfl, by omega, by omega⟩, List.forall_mem_cons.2 ⟨⟨_, rfl, by omega, by omega⟩, List.forall_mem_cons.2 ⟨⟨_, rfl, by split <;> omega, by split <;> omega⟩, fun v hv => by cases hv⟩⟩⟩⟩⟩⟩
        · clear wt5 wt5' T5 X5 es5 k5 g5 j5 j5' S5 U5 R5 hp5 wbb l0 l1 lh wt4 T4 X4 wt wb' wt' E3 E4 R3 R4
          rintro σ J6 ⟨k, c3, c7, c8, t, t', pe, w1, w2, es, rfl, X6, R6, T6, wt, wb, wt', wb', ke, eo⟩
          have o1 := hd_win wb
          have o2 := hd_win wb'
          refine ⟨_, rfl, _, rfl, _, rfl, _, rfl, r, pe, es, rfl, R6, SqL.of ke, eo.ne R6 ke, Nat.lt_of_lt_of_le (by decide) eo.2.2.1, Nat.le_trans eo.2.2.2 (by decide), fun v J7 E7 R7 hv => ?_⟩
          obtain ⟨x, rfl, xa, xb⟩ := eo.2.1 v hv
          have dA : Da (hide r J7) (.ref t) (wD w1) := (da_win R6 wt).mono (hide_ext E7)
          have dB : Da (hide r J7) (.ref t') (wD w2) := (da_win R6 wt').mono (hide_ext E7)
          have ke7 := E7 _ _ (eo.ne R6 ke) ke
          refine ⟨_, _, _, wD w1, wD w2, .int x, rfl, dA.mono (hide_same r J7), dB.mono (hide_same r J7), .int _, o1.1.mono (by decide) (by decide), o2.1.mono (by decide) (by decide),
            (ok3_int (n := 45) xa (by omega) (by decide) (by decide)).mono (by decide) (by decide), tabs_ext T6 E7 R6, fun J8 e8 T8 => ⟨_, rfl, iteF ?_⟩⟩
          have R8 := R7.extN e8
          have X8 : ExtR r J0 J8 := (X6.trans (ExtR.ext E7)).trans (ExtR.extN e8)
          have D1 := dA.monoN (hide_extN (r := r) e8)
          have D2 := dB.monoN (hide_extN (r := r) e8)
          obtain ⟨⟨e0, es', rfl⟩, eall, el1, el2⟩ := id eo
          have ke8 := e8 _ _ ke7 ntL
          obtain ⟨x0', ex0, x0, x1⟩ := eall _ List.mem_cons_self
          cases ex0
          refine ⟨_, rfl, _, rfl, (by show 0 ≤ sizeLine; decide), fun po1 hpo1 npo1 => ?_⟩
          obtain ⟨Jo1, jo1, So1, Uo1, Ro1, ko1, go1⟩ := stp (o := .lst ([] : List V)) R8 hpo1
          rw [jo1]
          have do1 : Da (hide r Jo1) (.ref po1) (.list []) := Da.lst npo1 go1 .nil
          refine ⟨(by show 0 ≤ sizeLine; decide), fun po2 hpo2 => ?_⟩
          obtain ⟨Jo2, jo2, So2, Uo2, Ro2, ko2, go2⟩ := stp (o := .tup ([] : List V)) Ro1 hpo2
          rw [jo2]
          have do2 : Da (hide r Jo2) (.ref po2) (.tuple []) := Da.tup go2 .nil
          refine fun po3 hpo3 => ?_
          obtain ⟨Jo3, jo3, So3, Uo3, Ro3, ko3, go3⟩ := stp (o := .dK ([] : List (Key × V))) Ro2 hpo3
          rw [jo3]
          have do3 : Da (hide r Jo3) (.ref po3) (.dict []) := Da.dic go3 .nil
          refine ⟨_, rfl, pe, _, _, _, rfl, rfl, SqL.of ((So1.trans (So2.trans (So3))) _ _ ke8), at_in (by decide) rfl, (by show 8 ≤ sizeLine; decide), fun po4 hpo4 => ?_⟩
          obtain ⟨Jo4, jo4, So4, Uo4, Ro4, ko4, go4⟩ := stp (o := .lst ([.non, .bl true, .int (-1), .str "0", .ref po1, .ref po2, .ref po3, .int e0] : List V)) Ro3 hpo4
          rw [jo4]
          have memO : ∀ v ∈ ([.non, .bl true, .int (-1), .str "0", .ref po1, .ref po2, .ref po3, .int e0] : List V), ∃ d : PyData, Da (hide r Jo4) v d ∧ Ok3 2000 20 d :=
            (List.forall_mem_cons.2 ⟨⟨.none, .non, ok3_by (by decide +kernel)⟩,
            (List.forall_mem_cons.2 ⟨⟨.bool true, .bl _, ok3_by (by decide +kernel)⟩,
            (List.forall_mem_cons.2 ⟨⟨.int (-1), .int _, ok3_by (by decide +kernel)⟩,
            (List.forall_mem_cons.2 ⟨⟨.str "0", .str _, ok3_by (by decide +kernel)⟩,
            (List.forall_mem_cons.2 ⟨⟨.list [], do1.mono (Uo2.trans (Uo3.trans (Uo4))), ok3_by (by decide +kernel)⟩,
            (List.forall_mem_cons.2 ⟨⟨.tuple [], do2.mono (Uo3.trans (Uo4)), ok3_by (by decide +kernel)⟩,
            (List.forall_mem_cons.2 ⟨⟨.dict [], do3.mono (Uo4), ok3_by (by decide +kernel)⟩,
            (List.forall_mem_cons.2 ⟨⟨.int e0, .int _, (ok3_int (n := 45) x0 (by omega) (by decide) (by decide)).mono (by decide) (by decide)⟩,
            (fun v hv => by cases hv)⟩)⟩)⟩)⟩)⟩)⟩)⟩)⟩)
          refine ⟨r, _, _, rfl, Ro4, SqL.of ko4, Ro4.ne ko4 (fun _ _ z => by cases z), (by show 0 < 8; decide), (by show 8 ≤ 1000; decide), fun vo J10 E10 R10 hvo => ?_⟩
          obtain ⟨dO, dO8, oO⟩ := memO vo hvo
          have S89 : Same J8 Jo4 := (So1.trans (So2.trans (So3.trans (So4))))
          have U8 : Same (hide r J8) (hide r J10) := (hide_to S89).trans (hide_ext E10)
          have X10 : ExtR r J0 J10 := X8.trans (ExtR.ext ((Ext.of S89).trans E10))
          have T10 : Tabs tb J10 := tabs_ext (T8.ext S89) E10 Ro4
          have ke10 : J10 pe = some (.lst (.int e0 :: es')) := E10 _ _ (eo.ne Ro4 (S89 _ _ ke8)) (S89 _ _ ke8)
          refine ⟨_, rfl, r, _, rfl, R10, by decide, by decide, fun d11 J11 E11 R11 a0 a1 => ?_⟩
          refine ⟨_, _, rfl, rfl, _, rfl, by omega, by omega, ?_⟩
          have U11 := hide_ext E11
          refine for_range (lo := 0) (n := (1 + d11).toNat) (fun i σ J => ∃ (k c3 c8 : Option V) (v1 v2 : V) (d1 d2 : PyData), σ = [some (.ref a), k, some (.ref r), c3, some v1, some v2, some (.ref pe), some vo, c8] ∧ ExtR r J0 J ∧ Rng J r ∧ Tabs tb J ∧
            Da (hide r J) v1 d1 ∧ Hd (nn i) (2 + i) d1 ∧ Da (hide r J) v2 d2 ∧ Hd (nn i) (2 + i) d2 ∧ Da (hide r J) vo dO ∧ J pe = some (.lst (.int e0 :: es')))
            ⟨_, _, _, _, _, _, _, rfl, X10.trans (ExtR.ext E11), R11, tabs_ext T10 E11 R10, (D1.mono U8).mono U11, o1, (D2.mono U8).mono U11, o2, (dO8.mono (hide_ext E10)).mono U11, E11 _ _ (eo.ne R10 ke10) ke10⟩ ?_ ?_
          · rintro m σ J12 hm ⟨k, c3, c8, v1, v2, d1, d2, rfl, X12, R12, T12, q1, z1, q2, z2, qO, ke12⟩
            refine ⟨_, rfl, r, _, rfl, R12, by decide, by decide, fun d13 J13 E13 R13 b0 b1 => ?_⟩
            have ke13 := E13 _ _ (eo.ne R12 ke12) ke12
            have U13 := hide_ext E13
            have T13 := tabs_ext T12 E13 R12
            refine ⟨rfl, _, rfl, ?_⟩
            refine ite2 (fun _ => ?_) (fun _ => ?_)
            · refine ⟨_, rfl, _, rfl, r, v1, d1, nn m, 2 + m, rfl, R13, q1.mono U13, z1, nn60 m, by omega, fun v' d' J14 E14 R14 q' z' => ?_⟩
              have U14 := hide_ext E14
              exact ⟨_, _, _, _, _, _, _, rfl, X12.trans (ExtR.ext (E13.trans E14)), R14, tabs_ext T13 E14 R13, q', z', (q2.mono U13).mono U14, z2.mono (by show nn m ≤ 3 * nn m + 9; omega) (by omega), (qO.mono U13).mono U14, E14 _ _ (eo.ne R13 ke13) ke13⟩
            · refine ⟨_, rfl, _, rfl, r, v2, d2, nn m, 2 + m, rfl, R13, q2.mono U13, z2, nn60 m, by omega, fun v' d' J14 E14 R14 q' z' => ?_⟩
              have U14 := hide_ext E14
              exact ⟨_, _, _, _, _, _, _, rfl, X12.trans (ExtR.ext (E13.trans E14)), R14, tabs_ext T13 E14 R13, (q1.mono U13).mono U14, z1.mono (by show nn m ≤ 3 * nn m + 9; omega) (by omega), q', z', (qO.mono U13).mono U14, E14 _ _ (eo.ne R13 ke13) ke13⟩
          · rintro σ J12 ⟨k, c3, c8, v1, v2, d1, d2, rfl, X12, R12, T12, q1, z1, q2, z2, qO, ke12⟩
            have nle : (1 + d11).toNat ≤ 2 := by omega
            have p1 : Ok3 2000 20 d1 := z1.1.mono (nn2 nle) (by omega)
            have p2 : Ok3 2000 20 d2 := z2.1.mono (nn2 nle) (by omega)
            refine ⟨_, rfl, _, rfl, _, rfl, v1, v2, vo, d1, d2, dO, rfl, q1.mono (hide_same r J12), q2.mono (hide_same r J12), qO.mono (hide_same r J12), p1, p2, oO, T12, fun J15 e15 T15 => ⟨_, rfl, iteF ?_⟩⟩
            have V15 := hide_extN (r := r) e15
            have ke15 := e15 _ _ ke12 ntL
            refine ⟨_, rfl, _, rfl, _, rfl, pe, _, _, _, rfl, rfl, SqL.of ke15, at_in (by decide) rfl, v1, v2, .int e0, d1, d2, .int e0, rfl, (q1.monoN V15).mono (hide_same r J15), (q2.monoN V15).mono (hide_same r J15), .int _, p1, p2,
              (ok3_int (n := 45) x0 (by omega) (by decide) (by decide)).mono (by decide) (by decide), T15, fun J16 e16 T16 => ⟨_, rfl, iteF ?_⟩⟩
            exact ⟨_, _, _, _, _, _, _, rfl, (X12.trans (ExtR.extN e15)).trans (ExtR.extN e16), (R12.extN e15).extN e16, T16⟩
      · rintro σ J ⟨k, c3, c4, c5, c6, c7, c8, rfl, E2, R2, T2⟩
        exact ⟨_, _, _, _, _, _, _, _, rfl, sq_extR hS0 fr E2, T2⟩
    · rintro σ J ⟨c1, c2, c3, c4, c5, c6, c7, c8, rfl, _⟩
      exact q J
end
end N2
set_option maxHeartbeats 4000000
namespace N2
open PySem PySem.Spec PyProof.Rows L2 G N4 LamX

theorem scIW : FnScope ["self", "value"] ["self", "value"] (defScope sIniW) :=
  ⟨rfl, rfl, rfl, by decide +kernel, rfl, by decide +kernel, by decide +kernel⟩
theorem scIV : FnScope ["self", "value"] ["self", "value"] (defScope sIniV) :=
  ⟨rfl, rfl, rfl, by decide +kernel, rfl, by decide +kernel, by decide +kernel⟩
theorem all_mk {l : PySem.W.OpenLaw} {w : World} {K : PySem.W.Frag} {h : Heap} {mg : Str → Option Value}
    {fa f1 f2 f3 f4 f5 f6 f7 f8 f9 f10 f11 f12 f13 f14 f15 f16 f17 f18 f19 f20 : Addr} {cc19 tt19 : Addr} (X : K.In h) (gl : h.Ns mainGlobals mg) (hfa : mg "law" = some (.ref fa))
    {od1 an1 od2 an2 od3 an3 od4 an4 od5 an5 od6 an6 od7 an7 od8 an8 od9 an9 od10 an10 od11 an11 od12 an12 od13 an13 od14 an14 od15 an15 od16 an16 od17 an17 od18 an18 od19 an19 od20 an20 : Option Addr} {sl1 sl2 sl3 sl4 sl5 sl6 sl7 sl8 sl9 sl10 sl11 sl12 sl13 sl14 sl15 sl16 sl17 sl18 sl19 sl20 : Array (Option Value)}
    {oc1 kV1 dc1 pm1 cd1 ct1 oc2 kV2 dc2 pm2 cd2 ct2 oc3 kV3 dc3 pm3 cd3 ct3 oc4 kV4 dc4 pm4 cd4 ct4 oc5 kV5 dc5 pm5 cd5 ct5 oc6 kV6 dc6 pm6 cd6 ct6 oc7 kV7 dc7 pm7 cd7 ct7 oc8 kV8 dc8 pm8 cd8 ct8 oc9 kV9 dc9 pm9 cd9 ct9 oc10 kV10 dc10 pm10 cd10 ct10 oc11 kV11 dc11 pm11 cd11 ct11 oc12 kV12 dc12 pm12 cd12 ct12 oc13 kV13 dc13 pm13 cd13 ct13 oc14 kV14 dc14 pm14 cd14 ct14 oc15 kV15 dc15 pm15 cd15 ct15 oc16 kV16 dc16 pm16 cd16 ct16 oc17 kV17 dc17 pm17 cd17 ct17 oc18 kV18 dc18 pm18 cd18 ct18 oc19 kV19 dc19 pm19 ct19 oc20 kV20 dc20 pm20 cd20 ct20 : Value}
    (a1 : PySem.W.nsIn K mainGlobals "is_version" = some (some (.ref f1)))
    (l1 : K.lookup f1 = some ⟨oc1, od1, .func (PySem.W.fnOf "is_version" "is_version" (defArgs sIsVer) (defBody sIsVer) (defScope sIsVer) .none kV1 dc1 pm1 an1 cd1 ct1), sl1⟩)
    (c1 : PySem.W.codeIn K cd1 "is_version" = true) (k1 : PySem.W.keepIn K (.ref f1) = true)
    (a2 : PySem.W.nsIn K mainGlobals "require_version" = some (some (.ref f2)))
    (l2 : K.lookup f2 = some ⟨oc2, od2, .func (PySem.W.fnOf "require_version" "require_version" (defArgs sReqVer) (defBody sReqVer) (defScope sReqVer) .none kV2 dc2 pm2 an2 cd2 ct2), sl2⟩)
    (c2 : PySem.W.codeIn K cd2 "require_version" = true) (k2 : PySem.W.keepIn K (.ref f2) = true)
    (a3 : PySem.W.nsIn K mainGlobals "is_window" = some (some (.ref f3)))
    (l3 : K.lookup f3 = some ⟨oc3, od3, .func (PySem.W.fnOf "is_window" "is_window" (defArgs sIsWin) (defBody sIsWin) (defScope sIsWin) .none kV3 dc3 pm3 an3 cd3 ct3), sl3⟩)
    (c3 : PySem.W.codeIn K cd3 "is_window" = true) (k3 : PySem.W.keepIn K (.ref f3) = true)
    (a4 : PySem.W.nsIn K mainGlobals "require_window" = some (some (.ref f4)))
    (l4 : K.lookup f4 = some ⟨oc4, od4, .func (PySem.W.fnOf "require_window" "require_window" (defArgs sReqWin) (defBody sReqWin) (defScope sReqWin) .none kV4 dc4 pm4 an4 cd4 ct4), sl4⟩)
    (c4 : PySem.W.codeIn K cd4 "require_window" = true) (k4 : PySem.W.keepIn K (.ref f4) = true)
    (a5 : PySem.W.nsIn K mainGlobals "reaches" = some (some (.ref f5)))
    (l5 : K.lookup f5 = some ⟨oc5, od5, .func (PySem.W.fnOf "reaches" "reaches" (defArgs sReach) (defBody sReach) (defScope sReach) .none kV5 dc5 pm5 an5 cd5 ct5), sl5⟩)
    (c5 : PySem.W.codeIn K cd5 "reaches" = true) (k5 : PySem.W.keepIn K (.ref f5) = true)
    (a6 : PySem.W.nsIn K mainGlobals "contains" = some (some (.ref f6)))
    (l6 : K.lookup f6 = some ⟨oc6, od6, .func (PySem.W.fnOf "contains" "contains" (defArgs sCont) (defBody sCont) (defScope sCont) .none kV6 dc6 pm6 an6 cd6 ct6), sl6⟩)
    (c6 : PySem.W.codeIn K cd6 "contains" = true) (k6 : PySem.W.keepIn K (.ref f6) = true)
    (a7 : PySem.W.nsIn K mainGlobals "rises" = some (some (.ref f7)))
    (l7 : K.lookup f7 = some ⟨oc7, od7, .func (PySem.W.fnOf "rises" "rises" (defArgs sRises) (defBody sRises) (defScope sRises) .none kV7 dc7 pm7 an7 cd7 ct7), sl7⟩)
    (c7 : PySem.W.codeIn K cd7 "rises" = true) (k7 : PySem.W.keepIn K (.ref f7) = true)
    (a8 : PySem.W.nsIn K mainGlobals "_law_rng" = some (some (.ref f8)))
    (l8 : K.lookup f8 = some ⟨oc8, od8, .func (PySem.W.fnOf "_law_rng" "_law_rng" (defArgs sRng) (defBody sRng) (defScope sRng) .none kV8 dc8 pm8 an8 cd8 ct8), sl8⟩)
    (c8 : PySem.W.codeIn K cd8 "_law_rng" = true) (k8 : PySem.W.keepIn K (.ref f8) = true)
    (a9 : PySem.W.nsIn K mainGlobals "_law_draw" = some (some (.ref f9)))
    (l9 : K.lookup f9 = some ⟨oc9, od9, .func (PySem.W.fnOf "_law_draw" "_law_draw" (defArgs sDraw) (defBody sDraw) (defScope sDraw) .none kV9 dc9 pm9 an9 cd9 ct9), sl9⟩)
    (c9 : PySem.W.codeIn K cd9 "_law_draw" = true) (k9 : PySem.W.keepIn K (.ref f9) = true)
    (a10 : PySem.W.nsIn K mainGlobals "_law_choice" = some (some (.ref f10)))
    (l10 : K.lookup f10 = some ⟨oc10, od10, .func (PySem.W.fnOf "_law_choice" "_law_choice" (defArgs sChoice) (defBody sChoice) (defScope sChoice) .none kV10 dc10 pm10 an10 cd10 ct10), sl10⟩)
    (c10 : PySem.W.codeIn K cd10 "_law_choice" = true) (k10 : PySem.W.keepIn K (.ref f10) = true)
    (a11 : PySem.W.nsIn K mainGlobals "_law_is_version" = some (some (.ref f11)))
    (l11 : K.lookup f11 = some ⟨oc11, od11, .func (PySem.W.fnOf "_law_is_version" "_law_is_version" (defArgs sLIV) (defBody sLIV) (defScope sLIV) .none kV11 dc11 pm11 an11 cd11 ct11), sl11⟩)
    (c11 : PySem.W.codeIn K cd11 "_law_is_version" = true) (k11 : PySem.W.keepIn K (.ref f11) = true)
    (a12 : PySem.W.nsIn K mainGlobals "_law_is_window" = some (some (.ref f12)))
    (l12 : K.lookup f12 = some ⟨oc12, od12, .func (PySem.W.fnOf "_law_is_window" "_law_is_window" (defArgs sLIW) (defBody sLIW) (defScope sLIW) .none kV12 dc12 pm12 an12 cd12 ct12), sl12⟩)
    (c12 : PySem.W.codeIn K cd12 "_law_is_window" = true) (k12 : PySem.W.keepIn K (.ref f12) = true)
    (a13 : PySem.W.nsIn K mainGlobals "_law_window" = some (some (.ref f13)))
    (l13 : K.lookup f13 = some ⟨oc13, od13, .func (PySem.W.fnOf "_law_window" "_law_window" (defArgs sWindow) (defBody sWindow) (defScope sWindow) .none kV13 dc13 pm13 an13 cd13 ct13), sl13⟩)
    (c13 : PySem.W.codeIn K cd13 "_law_window" = true) (k13 : PySem.W.keepIn K (.ref f13) = true)
    (a14 : PySem.W.nsIn K mainGlobals "_law_near" = some (some (.ref f14)))
    (l14 : K.lookup f14 = some ⟨oc14, od14, .func (PySem.W.fnOf "_law_near" "_law_near" (defArgs sNear) (defBody sNear) (defScope sNear) .none kV14 dc14 pm14 an14 cd14 ct14), sl14⟩)
    (c14 : PySem.W.codeIn K cd14 "_law_near" = true) (k14 : PySem.W.keepIn K (.ref f14) = true)
    (a15 : PySem.W.nsIn K mainGlobals "_law_changed" = some (some (.ref f15)))
    (l15 : K.lookup f15 = some ⟨oc15, od15, .func (PySem.W.fnOf "_law_changed" "_law_changed" (defArgs sChanged) (defBody sChanged) (defScope sChanged) .none kV15 dc15 pm15 an15 cd15 ct15), sl15⟩)
    (c15 : PySem.W.codeIn K cd15 "_law_changed" = true) (k15 : PySem.W.keepIn K (.ref f15) = true)
    (a16 : PySem.W.nsIn K mainGlobals "_law_told" = some (some (.ref f16)))
    (l16 : K.lookup f16 = some ⟨oc16, od16, .func (PySem.W.fnOf "_law_told" "_law_told" (defArgs sTold) (defBody sTold) (defScope sTold) .none kV16 dc16 pm16 an16 cd16 ct16), sl16⟩)
    (c16 : PySem.W.codeIn K cd16 "_law_told" = true) (k16 : PySem.W.keepIn K (.ref f16) = true)
    (a17 : PySem.W.nsIn K mainGlobals "_law_contains_due" = some (some (.ref f17)))
    (l17 : K.lookup f17 = some ⟨oc17, od17, .func (PySem.W.fnOf "_law_contains_due" "_law_contains_due" (defArgs sCDue) (defBody sCDue) (defScope sCDue) .none kV17 dc17 pm17 an17 cd17 ct17), sl17⟩)
    (c17 : PySem.W.codeIn K cd17 "_law_contains_due" = true) (k17 : PySem.W.keepIn K (.ref f17) = true)
    (a18 : PySem.W.nsIn K mainGlobals "_law_rises_due" = some (some (.ref f18)))
    (l18 : K.lookup f18 = some ⟨oc18, od18, .func (PySem.W.fnOf "_law_rises_due" "_law_rises_due" (defArgs sRDue) (defBody sRDue) (defScope sRDue) .none kV18 dc18 pm18 an18 cd18 ct18), sl18⟩)
    (c18 : PySem.W.codeIn K cd18 "_law_rises_due" = true) (k18 : PySem.W.keepIn K (.ref f18) = true)
    (a19 : PySem.W.nsIn K mainGlobals "_law_pair_right" = some (some (.ref f19)))
    (l19 : K.lookup f19 = some ⟨oc19, od19, .func (PySem.W.fnOf "_law_pair_right" "_law_pair_right" (defArgs sPair) (defBody sPair) (defScope sPair) .none kV19 dc19 pm19 an19 (.ref cc19) ct19), sl19⟩)
    (c19 : PySem.W.codeIn K (.ref cc19) "_law_pair_right" = true) (k19 : PySem.W.keepIn K (.ref f19) = true)
    (a20 : PySem.W.nsIn K mainGlobals "law" = some (some (.ref f20)))
    (l20 : K.lookup f20 = some ⟨oc20, od20, .func (PySem.W.fnOf "law" "law" (defArgs sLaw) (defBody sLaw) (defScope sLaw) .none kV20 dc20 pm20 an20 cd20 ct20), sl20⟩)
    (c20 : PySem.W.codeIn K cd20 "law" = true) (k20 : PySem.W.keepIn K (.ref f20) = true)
    (w19 : PySem.W.tabIn K "_law_pair_right" = some (cc19, tt19)) (v19 : K.lookup tt19 = none)
    {CG CN CS CW CV fIW fIV : Addr}
    (aG : PySem.W.nsIn K mainGlobals "GroupError" = some (some (.ref CG)))
    (gB : PySem.W.subIn K (.ref CG) (.type "BaseException") = some true)
    (gH : PySem.W.hasDictIn K CG = true)
    (gT : PySem.W.typeIn K (.ref CG) = some (.type "type"))
    (aN : PySem.W.nsIn K mainGlobals "InvalidName" = some (some (.ref CN)))
    (aS : PySem.W.nsIn K mainGlobals "InvalidWindows" = some (some (.ref CS)))
    {nmW qW : Str} {NW : Addr} {bsW : List Value} {snW : List Str} {subW : List Value} {abW : Bool} {colW : Option Bool} {ddW : Option Addr} {m0W m1W m2W m3W m5W : Option Value}
    {odIW anIW : Option Addr} {slIW : Array (Option Value)} {ocIW kVIW dcIW pmIW cdIW ctIW : Value}
    (aW : PySem.W.nsIn K mainGlobals "InvalidWindow" = some (some (.ref CW)))
    (xW : K.lookup CW = some (excClassObj nmW qW CW NW bsW [.ref CG, .type "ValueError", .type "Exception", .type "BaseException", .type "object"] true snW subW abW colW ddW m0W m1W m2W m3W m5W "ValueError.__new__"))
    (saW : PySem.W.findIn K (.ref CW) "__setattr__" = some (some (.builtin "object.__setattr__")))
    (exW : PySem.W.subIn K (.ref CW) (.type "BaseException") = some true)
    (tyW : PySem.W.typeIn K (.ref CW) = some (.type "type"))
    (kcW : PySem.W.keepIn K (.ref CW) = true)
    (gaW : PySem.W.findIn K (.ref CW) "__getattribute__" = some (some (.builtin "BaseException.__getattribute__")))
    (ggW : PySem.W.findIn K (.ref CW) "__getattr__" = some none)
    (hdW : PySem.W.hasDictIn K CW = true)
    (haW : PySem.W.findIn K (.ref CW) "__class__" = some (some (.builtin "object.__class__")))
    (hmW : PySem.W.mroIn K CW (.type "object") = some true)
    (noW : PySem.W.findIn K (.ref CW) "value" = some none)
    (inW : PySem.W.findIn K (.ref CW) "__init__" = some (some (.ref fIW)))
    (tiW : PySem.W.typeIn K (.ref fIW) = some (.type "function"))
    (liW : K.lookup fIW = some ⟨ocIW, odIW, .func (PySem.W.fnOf "__init__" "InvalidWindow.__init__" (defArgs sIniW) (defBody sIniW) (defScope sIniW) .none kVIW dcIW pmIW anIW cdIW ctIW), slIW⟩)
    (ciW : PySem.W.codeIn K cdIW "InvalidWindow.__init__" = true)
    (kiW : PySem.W.keepIn K (.ref fIW) = true)
    (sbW : PySem.W.subIn K (.ref CW) (.ref CG) = some true)
    {nmV qV : Str} {NV : Addr} {bsV : List Value} {snV : List Str} {subV : List Value} {abV : Bool} {colV : Option Bool} {ddV : Option Addr} {m0V m1V m2V m3V m5V : Option Value}
    {odIV anIV : Option Addr} {slIV : Array (Option Value)} {ocIV kVIV dcIV pmIV cdIV ctIV : Value}
    (aV : PySem.W.nsIn K mainGlobals "InvalidVersion" = some (some (.ref CV)))
    (xV : K.lookup CV = some (excClassObj nmV qV CV NV bsV [.ref CG, .type "ValueError", .type "Exception", .type "BaseException", .type "object"] true snV subV abV colV ddV m0V m1V m2V m3V m5V "ValueError.__new__"))
    (saV : PySem.W.findIn K (.ref CV) "__setattr__" = some (some (.builtin "object.__setattr__")))
    (exV : PySem.W.subIn K (.ref CV) (.type "BaseException") = some true)
    (tyV : PySem.W.typeIn K (.ref CV) = some (.type "type"))
    (kcV : PySem.W.keepIn K (.ref CV) = true)
    (gaV : PySem.W.findIn K (.ref CV) "__getattribute__" = some (some (.builtin "BaseException.__getattribute__")))
    (ggV : PySem.W.findIn K (.ref CV) "__getattr__" = some none)
    (hdV : PySem.W.hasDictIn K CV = true)
    (haV : PySem.W.findIn K (.ref CV) "__class__" = some (some (.builtin "object.__class__")))
    (hmV : PySem.W.mroIn K CV (.type "object") = some true)
    (noV : PySem.W.findIn K (.ref CV) "value" = some none)
    (inV : PySem.W.findIn K (.ref CV) "__init__" = some (some (.ref fIV)))
    (tiV : PySem.W.typeIn K (.ref fIV) = some (.type "function"))
    (liV : K.lookup fIV = some ⟨ocIV, odIV, .func (PySem.W.fnOf "__init__" "InvalidVersion.__init__" (defArgs sIniV) (defBody sIniV) (defScope sIniV) .none kVIV dcIV pmIV anIV cdIV ctIV), slIV⟩)
    (ciV : PySem.W.codeIn K cdIV "InvalidVersion.__init__" = true)
    (kiV : PySem.W.keepIn K (.ref fIV) = true)
    (sbV : PySem.W.subIn K (.ref CV) (.ref CG) = some true)
    (hn : PySem.W.specialIn K (.builtin "object.__class__") "__get__" = some (some (.builtin "getset_descriptor.__get__")))
    (ht : PySem.W.takesIn K (.builtin "object.__class__") = some true)
    (ktWW : PySem.W.kitOne K (.ref CW) (.ref CW) = some true)
    (ktWV : PySem.W.kitOne K (.ref CW) (.ref CV) = some false)
    (ktVV : PySem.W.kitOne K (.ref CV) (.ref CV) = some true)
    (ktVW : PySem.W.kitOne K (.ref CV) (.ref CW) = some false)
    (kEW : PySem.W.kitOne K (.ref CW) (.type "ValueError") = some true)
    (kAW : PySem.W.kitAny K (.ref CW) [.ref CN, .ref CS, .type "LookupError", .type "RuntimeError", .type "ArithmeticError"] = some false)
    (kEV : PySem.W.kitOne K (.ref CV) (.type "ValueError") = some true)
    (kAV : PySem.W.kitAny K (.ref CV) [.ref CN, .ref CS, .type "LookupError", .type "RuntimeError", .type "ArithmeticError"] = some false)
    (zlen : PySem.W.nsIn K mainGlobals "len" = some none)
    (zabs : PySem.W.nsIn K mainGlobals "abs" = some none)
    (zmax : PySem.W.nsIn K mainGlobals "max" = some none)
    (zmin : PySem.W.nsIn K mainGlobals "min" = some none)
    (zdivmod : PySem.W.nsIn K mainGlobals "divmod" = some none)
    (zisi : PySem.W.nsIn K mainGlobals "isinstance" = some none)
    (ztuple : PySem.W.nsIn K mainGlobals "tuple" = some none)
    (zint : PySem.W.nsIn K mainGlobals "int" = some none)
    (zbool : PySem.W.nsIn K mainGlobals "bool" = some none)
    (zlist : PySem.W.nsIn K mainGlobals "list" = some none)
    (zrange : PySem.W.nsIn K mainGlobals "range" = some none)
    (zrepr : PySem.W.nsIn K mainGlobals "repr" = some none)
    (zlook : PySem.W.nsIn K mainGlobals "LookupError" = some none)
    (zrun : PySem.W.nsIn K mainGlobals "RuntimeError" = some none)
    (zarith : PySem.W.nsIn K mainGlobals "ArithmeticError" = some none)
    (zvalue : PySem.W.nsIn K mainGlobals "ValueError" = some none)
    : AtG l w K mg 8 63 "_law_script" fa ["_law_pair_right"] := by
  have e := hfa.symm.trans (PySem.W.mg_of X gl a20)
  cases e
  have T : Txt mg := ⟨PySem.W.mg_none_of X gl zlen, PySem.W.mg_none_of X gl zabs, PySem.W.mg_none_of X gl zmax, PySem.W.mg_none_of X gl zmin, PySem.W.mg_none_of X gl zdivmod, PySem.W.mg_none_of X gl zisi, PySem.W.mg_none_of X gl ztuple, PySem.W.mg_none_of X gl zint, PySem.W.mg_none_of X gl zbool, PySem.W.mg_none_of X gl zlist, PySem.W.mg_none_of X gl zrange, PySem.W.mg_none_of X gl zrepr, PySem.W.mg_none_of X gl zlook, PySem.W.mg_none_of X gl zrun, PySem.W.mg_none_of X gl zarith, PySem.W.mg_none_of X gl zvalue⟩
  have F1 := fun_mk (st := sIsVer) l1 c1 k1
  have b1 := F1.binds (ps := ["value"]) fun _ _ _ _ _ _ us hl => match us, hl with | [_], _ => rfl
  have g1 := PySem.W.mg_of X gl a1
  have F2 := fun_mk (st := sReqVer) l2 c2 k2
  have b2 := F2.binds (ps := ["value"]) fun _ _ _ _ _ _ us hl => match us, hl with | [_], _ => rfl
  have g2 := PySem.W.mg_of X gl a2
  have F3 := fun_mk (st := sIsWin) l3 c3 k3
  have b3 := F3.binds (ps := ["value"]) fun _ _ _ _ _ _ us hl => match us, hl with | [_], _ => rfl
  have g3 := PySem.W.mg_of X gl a3
  have F4 := fun_mk (st := sReqWin) l4 c4 k4
  have b4 := F4.binds (ps := ["value"]) fun _ _ _ _ _ _ us hl => match us, hl with | [_], _ => rfl
  have g4 := PySem.W.mg_of X gl a4
  have F5 := fun_mk (st := sReach) l5 c5 k5
  have b5 := F5.binds (ps := ["high", "version"]) fun _ _ _ _ _ _ us hl => match us, hl with | [_, _], _ => rfl
  have g5 := PySem.W.mg_of X gl a5
  have F6 := fun_mk (st := sCont) l6 c6 k6
  have b6 := F6.binds (ps := ["window", "version"]) fun _ _ _ _ _ _ us hl => match us, hl with | [_, _], _ => rfl
  have g6 := PySem.W.mg_of X gl a6
  have F7 := fun_mk (st := sRises) l7 c7 k7
  have b7 := F7.binds (ps := ["first", "second"]) fun _ _ _ _ _ _ us hl => match us, hl with | [_, _], _ => rfl
  have g7 := PySem.W.mg_of X gl a7
  have F8 := fun_mk (st := sRng) l8 c8 k8
  have b8 := F8.binds (ps := ["_law_script", "_law_k"]) fun _ _ _ _ _ _ us hl => match us, hl with | [_, _], _ => rfl
  have g8 := PySem.W.mg_of X gl a8
  have F9 := fun_mk (st := sDraw) l9 c9 k9
  have b9 := F9.binds (ps := ["_law_rng_here", "_law_many"]) fun _ _ _ _ _ _ us hl => match us, hl with | [_, _], _ => rfl
  have g9 := PySem.W.mg_of X gl a9
  have F10 := fun_mk (st := sChoice) l10 c10 k10
  have b10 := F10.binds (ps := ["_law_rng_here", "_law_options"]) fun _ _ _ _ _ _ us hl => match us, hl with | [_, _], _ => rfl
  have g10 := PySem.W.mg_of X gl a10
  have F11 := fun_mk (st := sLIV) l11 c11 k11
  have b11 := F11.binds (ps := ["_law_value"]) fun _ _ _ _ _ _ us hl => match us, hl with | [_], _ => rfl
  have g11 := PySem.W.mg_of X gl a11
  have F12 := fun_mk (st := sLIW) l12 c12 k12
  have b12 := F12.binds (ps := ["_law_value"]) fun _ _ _ _ _ _ us hl => match us, hl with | [_], _ => rfl
  have g12 := PySem.W.mg_of X gl a12
  have F13 := fun_mk (st := sWindow) l13 c13 k13
  have b13 := F13.binds (ps := ["_law_rng_here"]) fun _ _ _ _ _ _ us hl => match us, hl with | [_], _ => rfl
  have g13 := PySem.W.mg_of X gl a13
  have F14 := fun_mk (st := sNear) l14 c14 k14
  have b14 := F14.binds (ps := ["_law_rng_here", "_law_window_here"]) fun _ _ _ _ _ _ us hl => match us, hl with | [_, _], _ => rfl
  have g14 := PySem.W.mg_of X gl a14
  have F15 := fun_mk (st := sChanged) l15 c15 k15
  have b15 := F15.binds (ps := ["_law_rng_here", "_law_value"]) fun _ _ _ _ _ _ us hl => match us, hl with | [_, _], _ => rfl
  have g15 := PySem.W.mg_of X gl a15
  have F16 := fun_mk (st := sTold) l16 c16 k16
  have b16 := F16.binds (ps := ["_law_call"]) fun _ _ _ _ _ _ us hl => match us, hl with | [_], _ => rfl
  have g16 := PySem.W.mg_of X gl a16
  have F17 := fun_mk (st := sCDue) l17 c17 k17
  have b17 := F17.binds (ps := ["_law_window_here", "_law_version"]) fun _ _ _ _ _ _ us hl => match us, hl with | [_, _], _ => rfl
  have g17 := PySem.W.mg_of X gl a17
  have F18 := fun_mk (st := sRDue) l18 c18 k18
  have b18 := F18.binds (ps := ["_law_one", "_law_other"]) fun _ _ _ _ _ _ us hl => match us, hl with | [_, _], _ => rfl
  have g18 := PySem.W.mg_of X gl a18
  have F19 := fun_mk (st := sPair) l19 c19 k19
  have b19 := F19.binds (ps := ["_law_one", "_law_other", "_law_version"]) fun _ _ _ _ _ _ us hl => match us, hl with | [_, _, _], _ => rfl
  have g19 := PySem.W.mg_of X gl a19
  refine ⟨PySem.W.fnOf "law" "law" (defArgs sLaw) (defBody sLaw) (defScope sLaw) .none kV20 dc20 pm20 an20 cd20 ct20, [(cc19, tt19)], spLaw K [(tt19, qL)], ?_, ?_, fun s v => .of_eq rfl, ?_, fun bs _ _ tB => ?_⟩
  · exact List.forall_mem_cons.2 ⟨⟨_, by simp, w19⟩, fun p hp => by cases hp⟩
  · exact List.forall_mem_cons.2 ⟨v19, fun p hp => by cases hp⟩
  · intro H a ns hl hT hS
    have n19 := hT (cc19, tt19) (by simp)
    exact ⟨a, ns, rfl, hS, hl, List.forall_mem_cons.2 ⟨TabS.nil n19, fun p hp => by cases hp⟩, fun _ => rfl⟩
  have tB19 := tB (cc19, tt19) (by simp)
  have FL := fun_mk (st := sLaw) l20 c20 k20
  have oeW : OexC K CW := ⟨⟨nmW, qW, NW, bsW, _, snW, subW, abW, colW, ddW, m0W, m1W, m2W, m3W, m5W, xW, rfl⟩, saW, exW, tyW, kcW⟩
  have FIW := fun_mk (st := sIniW) liW ciW kiW
  have bIW := FIW.binds (ps := ["self", "value"]) fun _ _ _ _ _ _ us hl => match us, hl with | [_, _], _ => rfl
  have XW : XCls l.prog w K mg bs "InvalidWindow" CW "value" "value" := ⟨oeW, ⟨gaW, ggW, exW, hdW⟩, ⟨gaW, ggW, exW, hdW, haW, hn, ht, hmW⟩, noW, PySem.W.mg_of X gl aW,
    fIW, _, inW, tiW, ok_ini FIW scIW oeW noW rfl rfl rfl (by decide) (by decide), bIW⟩
  have oeV : OexC K CV := ⟨⟨nmV, qV, NV, bsV, _, snV, subV, abV, colV, ddV, m0V, m1V, m2V, m3V, m5V, xV, rfl⟩, saV, exV, tyV, kcV⟩
  have FIV := fun_mk (st := sIniV) liV ciV kiV
  have bIV := FIV.binds (ps := ["self", "value"]) fun _ _ _ _ _ _ us hl => match us, hl with | [_, _], _ => rfl
  have XV : XCls l.prog w K mg bs "InvalidVersion" CV "value" "value" := ⟨oeV, ⟨gaV, ggV, exV, hdV⟩, ⟨gaV, ggV, exV, hdV, haV, hn, ht, hmV⟩, noV, PySem.W.mg_of X gl aV,
    fIV, _, inV, tiV, ok_ini FIV scIV oeV noV rfl rfl rfl (by decide) (by decide), bIV⟩
  have T2 : Two K mg CG CN CS CW CV := ⟨PySem.W.mg_of X gl aG, PySem.W.mg_of X gl aN, PySem.W.mg_of X gl aS, PySem.W.exm_ref gB gH gT sbW, PySem.W.exm_ref gB gH gT sbV, ktWW, ktWV, ktVV, ktVW, kEW, kEV, kAW, kAV⟩
  have O1 := ok_ver (P := l.prog) (w := w) (base := bs) F1 T
  have O2 := ok_reqV (P := l.prog) (w := w) (base := bs) F2 O1 F1.kp b1 g1 XV
  have O3 := ok_win (P := l.prog) (w := w) (base := bs) F3 T F1 b1 g1
  have O4 := ok_reqX (P := l.prog) (w := w) (base := bs) F4 O3 F3.kp b3 g3 XW
  have O5 := ok_reach (P := l.prog) (w := w) (base := bs) (mg := mg) F5
  have O6 := ok_cont (P := l.prog) (w := w) (base := bs) F6 O4 F4.kp b4 g4 O2 F2.kp b2 g2 O5 F5.kp b5 g5
  have O7 := ok_rises (P := l.prog) (w := w) (base := bs) F7 O4 F4.kp b4 g4 O5 F5.kp b5 g5
  have O8 := ok_rng (P := l.prog) (w := w) (base := bs) F8 T
  have O9 := ok_draw (P := l.prog) (w := w) (base := bs) F9 T
  have O10 := ok_choice (P := l.prog) (w := w) (base := bs) F10 T F9 b9 g9
  have O11 := ok_liv (P := l.prog) (w := w) (base := bs) F11 T
  have O12 := ok_liw (P := l.prog) (w := w) (base := bs) F12 T O11 F11.kp b11 g11
  have O13 := ok_wind (P := l.prog) (w := w) (base := bs) F13 O9 F9.kp b9 g9
  have O14 := ok_near (P := l.prog) (w := w) (base := bs) F14 T O9 F9.kp b9 g9 O10 F10.kp b10 g10
  have O15 := ok_chg (P := l.prog) (w := w) (base := bs) F15 T O10 F10.kp b10 g10
  have O17 := ok_cdue (P := l.prog) (w := w) (base := bs) F17 T O12 F12.kp b12 g12 O11 F11.kp b11 g11
  have O18 := ok_rdue (P := l.prog) (w := w) (base := bs) F18 T O12 F12.kp b12 g12
  have O19 := ok_pair (P := l.prog) (w := w) (base := bs) l19 c19 T T2 XW XV l16 c16 k16 g16 b16 tB19 O3 F3.kp b3 g3 O12 F12.kp b12 g12 O6 F6.kp b6 g6 O7 F7.kp b7 g7 O17 F17.kp b17 g17 O18 F18.kp b18 g18
  exact ok_law FL T O8 F8.kp b8 g8 O9 F9.kp b9 g9 O10 F10.kp b10 g10 O13 F13.kp b13 g13 O14 F14.kp b14 g14 O15 F15.kp b15 g15 O19 k19 b19 g19
end N2

open PySem PySem.W PyProof.Rows in
set_option maxRecDepth 100000 in
set_option maxHeartbeats 0 in
theorem PySem.Challenge.cw_groupsteps_k12_windows_judged_holds : PySem.Challenge.rw_groupsteps_k12_windows_judged.Holds := by
  w_on; o_law; k_head; (case hw => w_witness2)
  k_fill
  refine G.walk_ofGT (l := PySem.Challenge.rw_groupsteps_k12_windows_judged) (n := 63) (k := 8) (x := "_law_script") (ms := ["_law_pair_right"]) rfl (by decide) rfl ⟨rfl, by decide, by decide⟩ ?R (fun w h Y => PySem.W.km_in_of Y) ?F
  case R =>
    intro m hm
    simp only [List.mem_cons, List.not_mem_nil, or_false] at hm
    rcases hm with rfl
    all_goals with_unfolding_all rfl
  case F =>
    intro w mg fa h KX gl hmg
    refine' N2.all_mk KX gl hmg ?a1 ?l1 ?c1 ?k1 ?a2 ?l2 ?c2 ?k2 ?a3 ?l3 ?c3 ?k3 ?a4 ?l4 ?c4 ?k4 ?a5 ?l5 ?c5 ?k5 ?a6 ?l6 ?c6 ?k6 ?a7 ?l7 ?c7 ?k7 ?a8 ?l8 ?c8 ?k8 ?a9 ?l9 ?c9 ?k9 ?a10 ?l10 ?c10 ?k10 ?a11 ?l11 ?c11 ?k11 ?a12 ?l12 ?c12 ?k12 ?a13 ?l13 ?c13 ?k13 ?a14 ?l14 ?c14 ?k14 ?a15 ?l15 ?c15 ?k15 ?a16 ?l16 ?c16 ?k16 ?a17 ?l17 ?c17 ?k17 ?a18 ?l18 ?c18 ?k18 ?a19 ?l19 ?c19 ?k19 ?a20 ?l20 ?c20 ?k20 ?w19 ?v19 ?aG ?gB ?gH ?gT ?aN ?aS ?aW ?xW ?saW ?exW ?tyW ?kcW ?gaW ?ggW ?hdW ?haW ?hmW ?noW ?inW ?tiW ?liW ?ciW ?kiW ?sbW ?aV ?xV ?saV ?exV ?tyV ?kcV ?gaV ?ggV ?hdV ?haV ?hmV ?noV ?inV ?tiV ?liV ?ciV ?kiV ?sbV ?hn ?ht ?ktWW ?ktWV ?ktVV ?ktVW ?kEW ?kAW ?kEV ?kAV ?zlen ?zabs ?zmax ?zmin ?zdivmod ?zisi ?ztuple ?zint ?zbool ?zlist ?zrange ?zrepr ?zlook ?zrun ?zarith ?zvalue
    (case a1 => k_is)
    (case l1 => k_is)
    (case c1 => k_is)
    (case k1 => k_is)
    (case a2 => k_is)
    (case l2 => k_is)
    (case c2 => k_is)
    (case k2 => k_is)
    (case a3 => k_is)
    (case l3 => k_is)
    (case c3 => k_is)
    (case k3 => k_is)
    (case a4 => k_is)
    (case l4 => k_is)
    (case c4 => k_is)
    (case k4 => k_is)
    (case a5 => k_is)
    (case l5 => k_is)
    (case c5 => k_is)
    (case k5 => k_is)
    (case a6 => k_is)
    (case l6 => k_is)
    (case c6 => k_is)
    (case k6 => k_is)
    (case a7 => k_is)
    (case l7 => k_is)
    (case c7 => k_is)
    (case k7 => k_is)
    (case a8 => k_is)
    (case l8 => k_is)
    (case c8 => k_is)
    (case k8 => k_is)
    (case a9 => k_is)
    (case l9 => k_is)
    (case c9 => k_is)
    (case k9 => k_is)
    (case a10 => k_is)
    (case l10 => k_is)
    (case c10 => k_is)
    (case k10 => k_is)
    (case a11 => k_is)
    (case l11 => k_is)
    (case c11 => k_is)
    (case k11 => k_is)
    (case a12 => k_is)
    (case l12 => k_is)
    (case c12 => k_is)
    (case k12 => k_is)
    (case a13 => k_is)
    (case l13 => k_is)
    (case c13 => k_is)
    (case k13 => k_is)
    (case a14 => k_is)
    (case l14 => k_is)
    (case c14 => k_is)
    (case k14 => k_is)
    (case a15 => k_is)
    (case l15 => k_is)
    (case c15 => k_is)
    (case k15 => k_is)
    (case a16 => k_is)
    (case l16 => k_is)
    (case c16 => k_is)
    (case k16 => k_is)
    (case a17 => k_is)
    (case l17 => k_is)
    (case c17 => k_is)
    (case k17 => k_is)
    (case a18 => k_is)
    (case l18 => k_is)
    (case c18 => k_is)
    (case k18 => k_is)
    (case a19 => k_is)
    (case l19 => k_is)
    (case c19 => k_is)
    (case k19 => k_is)
    (case a20 => k_is)
    (case l20 => k_is)
    (case c20 => k_is)
    (case k20 => k_is)
    (case w19 => first | rfl | k_is)
    (case v19 => first | rfl | k_is)
    (case aG => k_is)
    (case gB => k_is)
    (case gH => k_is)
    (case gT => k_is)
    (case aN => k_is)
    (case aS => k_is)
    (case aW => k_is)
    (case xW => k_is)
    (case saW => k_is)
    (case exW => k_is)
    (case tyW => k_is)
    (case kcW => k_is)
    (case gaW => k_is)
    (case ggW => k_is)
    (case hdW => k_is)
    (case haW => k_is)
    (case hmW => k_is)
    (case noW => k_is)
    (case inW => k_is)
    (case tiW => k_is)
    (case liW => k_is)
    (case ciW => k_is)
    (case kiW => k_is)
    (case sbW => first | rfl | k_is)
    (case aV => k_is)
    (case xV => k_is)
    (case saV => k_is)
    (case exV => k_is)
    (case tyV => k_is)
    (case kcV => k_is)
    (case gaV => k_is)
    (case ggV => k_is)
    (case hdV => k_is)
    (case haV => k_is)
    (case hmV => k_is)
    (case noV => k_is)
    (case inV => k_is)
    (case tiV => k_is)
    (case liV => k_is)
    (case ciV => k_is)
    (case kiV => k_is)
    (case sbV => first | rfl | k_is)
    (case hn => k_is)
    (case ht => k_is)
    (case ktWW => first | rfl | k_is)
    (case ktWV => first | rfl | k_is)
    (case ktVV => first | rfl | k_is)
    (case ktVW => first | rfl | k_is)
    (case kEW => first | rfl | k_is)
    (case kAW => first | rfl | k_is)
    (case kEV => first | rfl | k_is)
    (case kAV => first | rfl | k_is)
    (case zlen => k_is)
    (case zabs => k_is)
    (case zmax => k_is)
    (case zmin => k_is)
    (case zdivmod => k_is)
    (case zisi => k_is)
    (case ztuple => k_is)
    (case zint => k_is)
    (case zbool => k_is)
    (case zlist => k_is)
    (case zrange => k_is)
    (case zrepr => k_is)
    (case zlook => k_is)
    (case zrun => k_is)
    (case zarith => k_is)
    (case zvalue => k_is)

import PyProof.Rows.All
import Wide.All
import OpenK.AllK
import Wide.FinOn
import HandS.ForMost
import HandS.IsInst
import HandS.WideBits
import HandS.Wide
import HandS.Walk
import HandS.EndBits
import PyProof.ReprRoads
import PyProof.ReprLen
import HandS.Ends
import HandS.ForExc
import HandS.ExcInit
import HandS.ExcField
import HandS.ExcIs
import HandS.Style
import HandS.Lambda
import HandS.EndTab
import KE.KNest
import HandS.List
import PyProof.Rows.CountFlat
import HandS.FStr
import HandS.Text
import KE.IntTextText
import HandS.ExcOwn
import HandS.Exc
import PyProof.Rows.EqBoolInt
import PySem.Challenge.RW_groupsteps_k16_wrong_windows_and_texts
set_option Elab.async false
set_option maxRecDepth 100000
set_option linter.all false
/-! Calls whose surroundings hold no running repr: a promise that may use it (FnG), and repr of data. -/
namespace G
open PySem PySem.Spec PyProof.Rows L2

/-- a def keeps its promise wherever no repr is under way -/
structure FnG (P : Program) (w : World) (K : PySem.W.Frag) (mg : Str → Option Value) (bs : Heap)
    (CX : CXT) (k : Nat) (f : Addr) (fd : FuncData) (ps : List Str) (sp : Sp) : Prop where
  lenG : ∀ vs H Q E, sp vs H Q E → vs.length = ps.length
  runG : ∀ (A : Around) (ou : List Env) (st : Shared) (H : Hp) (ar : Args) (ys : List Value)
    (xs : List V) (Q : VK) (E : XK), A.guards = some [] → Room k A →
    Env0 P w K mg bs A ou st H → BindsTo st fd ar (ps.zip ys) → Vals xs ys → sp xs H Q E →
    codeAny (model P w) A (.call (.ref f) ar) (CR CX ou P w H st Q E) st

variable {P : Program} {w : World} {K : PySem.W.Frag} {mg : Str → Option Value} {bs : Heap}

theorem FnG.of {CX : CXT} {k : Nat} {f : Addr} {fd : FuncData} {ps : List Str} {sp : Sp}
    (F : FnOk P w K mg bs CX k f fd ps sp) : FnG P w K mg bs CX k f fd ps sp :=
  ⟨F.len, fun A ou st H ar ys xs Q E _ => F.run A ou st H ar ys xs Q E⟩
theorem FnG.mono {CX : CXT} {j k : Nat} {f : Addr} {fd : FuncData} {ps : List Str} {sp : Sp}
    (F : FnG P w K mg bs CX j f fd ps sp) (h : j ≤ k) : FnG P w K mg bs CX k f fd ps sp :=
  ⟨F.lenG, fun A ou st H ar ys xs Q E g r => F.runG A ou st H ar ys xs Q E g (r.mono h)⟩

/-- a def of the text, by its body, which may use that no repr is under way -/
theorem fn_ofG {CX : CXT} {k : Nat} {f : Addr} {nm ql : Str} {prm : Arguments} {bd : List Stmt}
    {sc : Scope} {dV kV dc pm cv ct oc : Value} {an od : Option Addr} {sl : Array (Option Value)}
    {N ps : List Str} {sp : Sp}
    (lk : K.lookup f = some ⟨oc, od, .func (PySem.W.fnOf nm ql prm bd sc dV kV dc pm an cv ct), sl⟩)
    (hc : PySem.W.codeIn K cv ql = true) (S : FnScope N ps sc)
    (ln : ∀ vs H Q E, sp vs H Q E → vs.length = ps.length)
    (hb : ∀ (A : Around) (ou : List Env) (st : Shared) (H : Hp) (xs : List V) (Q : VK) (E : XK),
      A.guards = some [] → Room k (A.deeper (envOfC ql sc st.heap.objs.size f cv)) → sp xs H Q E →
      ∃ t, PSs (cxOf CX P w K mg bs N ql sc f cv A ou st H E) bd t ∧
        t { nx := fun _ J => Q .non J, rt := Q } (start N xs) H) :
    FnG P w K mg bs CX (k + 1) f (PySem.W.fnOf nm ql prm bd sc dV kV dc pm an cv ct) ps sp := by
  refine ⟨ln, fun A ou st H ar ys xs Q E gd rm ev bt vl pr => ?_⟩
  have len := ln xs H Q E pr
  have old : ∀ b o, bs.get? b = some o → st.heap.get? b = some o := fun b o z => (ev.bs b o z).1
  have inK : K.In st.heap := ev.mod.kin.keeps old
  have nl : st.heap.NoLimit := ev.mod.nolimit.keeps old
  have knd : ∀ y ∈ ps.zip ys, sc.names.lookup y.1 = some .local ∨
      (sc.names.lookup y.1 = some .cell ∧
        ((cellsFrom (st.heap.objs.size + 1) sc.names []).lookup y.1).isSome = true) := by
    rintro ⟨n, v⟩ hy
    rcases S.par n (List.of_mem_zip hy).1 with z | z
    · exact .inl z
    · exact .inr ⟨z, PySem.W.cellsFrom_some _ _ _ (.inl z)⟩
  refine codeAny_call_function rm.depth (inK _ _ lk) rfl S.co S.gen rfl
    (PySem.W.codeRec_of inK hc) (bt _ _ _ _ ?_)
  refine wpAny_newFunctionEnv_cells S.kind knd fun en hen st1 ic => ?_
  subst hen
  refine ⟨nl.keeps ic.toInCall.keep, codeAny_func ?_⟩
  obtain ⟨t, pt, rd⟩ := hb A ou st H xs Q E gd (rm.deeper _) pr
  have J : Inv (cxOf CX P w K mg bs N ql sc f cv A ou st H E) [] (start N xs) H st1 :=
    inv_start S rm.hd ev len vl ic
  refine wpAny_mono (pt.run [] st1 (start N xs) H _ J rd) (fun fl st2 z => ?_) fun _ _ z => z
  cases fl with
  | ret u =>
    obtain ⟨v, σ2, H2, J2, rv, q⟩ := z
    exact ⟨v, H2, J2.os, J2.bare, J2.base, J2.hok, rv, q⟩
  | next =>
    obtain ⟨σ2, H2, J2, q⟩ := z
    exact ⟨V.non, H2, J2.os, J2.bare, J2.base, J2.hok, rfl, q⟩
  | brk =>
    obtain ⟨_, _, _, q⟩ := z
    exact q.elim
  | cont =>
    obtain ⟨_, _, _, q⟩ := z
    exact q.elim

theorem okG {x ql : Str} {st : Stmt} {f : Addr} {fd : FuncData} {N ps : List Str} {k : Nat} {sp : Sp}
    (F : Fun K x ql st f fd) (S : FnScope N ps (defScope st))
    (ln : ∀ vs H Q E, sp vs H Q E → vs.length = ps.length)
    (hb : ∀ (cv : Value) (A : Around) (ou : List Env) (s : Shared) (H : Hp) (vs : List V) (Q : VK)
      (E : XK), A.guards = some [] →
      Room k (A.deeper (envOfC ql (defScope st) s.heap.objs.size f cv)) → sp vs H Q E →
      ∃ t, PSs (cxOf CX0 P w K mg bs N ql (defScope st) f cv A ou s H E).nox (defBody st) t ∧
        t { nx := fun _ J => Q .non J, rt := Q } (start N vs) H) :
    FnG P w K mg bs CX0 (k + 1) f fd ps sp := by
  obtain ⟨oc, od, kV, doc, pm, an, cdv, ct, osl, rfl, lk, hcd⟩ := F.ex
  refine fn_ofG lk hcd S ln fun A ou s H vs Q E gd rm pr => ?_
  obtain ⟨t, p, rd⟩ := hb cdv A ou s H vs Q E gd rm pr
  exact ⟨t, p.nox, rd⟩

section
variable {X : Cx} {CX : CXT} {k : Nat} {f : Addr} {fd : FuncData} {ps : List Str} {sp : Sp}
  {dvs : List V} {ds : List Value} {E : XK} {x : Str} {p pos : Pos} {e : Expr} {es : List Expr} {t : TA}
/-- f(..) of such a def -/
theorem pe_callG (F : FnG X.prog X.w X.K X.mg X.base CX k f fd ps sp) (gd : X.A.guards = some [])
    (rm : Room k X.A) (hg : Gl X x) (hm : X.mg x = some (.ref f))
    (hk : PySem.W.keepIn X.K (.ref f) = true) (hb : Binds X.K fd ps ds) (hd : Vals dvs ds)
    (hx : Passes CX X E) (ha : PA X (e :: es) t)
    (n1 : (x == ("__debug__" : Str)) = false := by decide)
    (n2 : starEach (e :: es) X.env = (false, eval e X.env) :: starEach es X.env := by rfl)
    (n3 : (backTo pos (starEach es X.env)).any (·.1) = false := by rfl) :
    PE X (.Call (.Name x p) (e :: es) [] pos) (tCall sp dvs E t) := by
  refine ⟨fun pins s σ H Q J hw => ?_⟩
  refine wpAny_Call_Name_kw (ld_glob J hg hm ?_ n1)
  refine PySem.W.callWith_K (h₀ := X.base) J.ok.mod.kin hk (thn (ha.run pos pins s σ H _ J hw)
    fun ys s1 ⟨xs, H1, J1, r1, q1⟩ => ⟨J1.kIn, ?_⟩) n2 n3
  have r2 : Vals (xs ++ dvs) (ys ++ ds) := r1.append hd
  have hl : (ys ++ ds).length = ps.length := by
    rw [← r2.length]
    exact F.lenG _ _ _ _ q1
  refine wpAny_call (codeAny_mono (F.runG X.A X.stack s1 H1 ⟨ys, []⟩ (ys ++ ds) (xs ++ dvs) Q E
    gd rm J1.env0 (hb s1 ys J1.kIn hl) r2 q1) fun r s2 z => ?_)
  cases r with
  | error er => exact hx pins σ H1 s1 er s2 J1 z
  | ok fl =>
    cases fl with
    | ret u => exact J1.after z
    | next => exact z.elim
    | brk => exact z.elim
    | cont => exact z.elim
end

section
variable {X : Cx}
/-- what repr gives of a value: its data, and whether it can be shown -/
def rRepr (K : PySem.W.Frag) : List V → Hp → VK → Prop := fun xs H Q =>
  ∃ (v : V) (d : PyData), xs = [v] ∧ Dp K H v d ∧ d.showable = true ∧ d.hasDict = false ∧
    d.depth ≤ 60 ∧ d.shown.length ≤ sizeLine ∧ Q (.str d.shown) H
theorem call_reprD (gd : X.A.guards = some []) (hu : X.A.units + 64 < cLine) :
    CallR X (.builtin "repr") (rRepr X.K) := by
  intro pins s σ H xs us Q I r h
  obtain ⟨v, d, rfl, hd, hs, hn, hp, hz, q⟩ := h
  obtain ⟨u, rfl, rv⟩ := vals1 r
  obtain ⟨as, R⟩ := Dp.reads I d v u hd rv
  cases R with
  | none => exact PySem.P.repr_of_none ⟨.str _, H, I.tok _, ⟨_, rfl⟩, q⟩
  | bool b => exact PySem.P.repr_of_bool ⟨.str _, H, I.tok _, ⟨_, rfl⟩, q⟩
  | int i t =>
    have hi : i.natAbs.log2 < 1920 := by simpa [PyData.showable] using hs
    exact PySem.P.repr_of_int hi ⟨.str _, H, I.tok _, ⟨_, rfl⟩, q⟩
  | str y t => exact PySem.P.repr_of_str ⟨.str _, H, I.tok _, ⟨_, rfl⟩, q⟩ hz
  | list h1 h2 h3 h4 =>
    exact repr_of_reads' (.list h1 h2 h3 h4) hs (PyData.noDict_hsm hn) gd (by omega)
      (fun _ _ e => e) (fun h' u tk k => ⟨.str _, H, I.kept k, ⟨_, rfl⟩, q⟩) hz
  | tuple h1 h2 h3 h4 =>
    exact repr_of_reads' (.tuple h1 h2 h3 h4) hs (PyData.noDict_hsm hn) gd (by omega)
      (fun _ _ e => e) (fun h' u tk k => ⟨.str _, H, I.kept k, ⟨_, rfl⟩, q⟩) hz
  | dict h1 h2 h3 h4 h5 => simp [PyData.hasDict] at hn
end
end G
/-! Data in the heap: none, bools, ints, texts, lists, tuples, dicts; their repr. -/
namespace G
open PySem PySem.Spec PyProof.Rows L2

def kD : Key → PyData
  | .inl i => .int i
  | .inr x => .str x
mutual
inductive Da (H : Hp) : V → PyData → Prop
  | non : Da H .non .none
  | bl (b : Bool) : Da H (.bl b) (.bool b)
  | int (i : Int) : Da H (.int i) (.int i)
  | str (x : Str) : Da H (.str x) (.str x)
  | lst {a : Addr} {xs : List V} {ds : List PyData} : a ≠ sysModules → H a = some (.lst xs) →
      DaAll H xs ds → Da H (.ref a) (.list ds)
  | tup {a : Addr} {xs : List V} {ds : List PyData} : H a = some (.tup xs) →
      DaAll H xs ds → Da H (.ref a) (.tuple ds)
  | dic {a : Addr} {kvs : List (Key × V)} {ds : List PyData} : H a = some (.dK kvs) →
      DaAll H (kvs.map (·.2)) ds → Da H (.ref a) (.dict ((kvs.map fun p => kD p.1).zip ds))
inductive DaAll (H : Hp) : List V → List PyData → Prop
  | nil : DaAll H [] []
  | cons {v : V} {vs : List V} {d : PyData} {ds : List PyData} : Da H v d → DaAll H vs ds →
      DaAll H (v :: vs) (d :: ds)
end
mutual
theorem Da.mono {H H' : Hp} (e : Same H H') {v : V} {d : PyData} : Da H v d → Da H' v d
  | .non => .non
  | .bl b => .bl b
  | .int i => .int i
  | .str x => .str x
  | .lst n h t => .lst n (e _ _ h) (DaAll.mono e t)
  | .tup h t => .tup (e _ _ h) (DaAll.mono e t)
  | .dic h t => .dic (e _ _ h) (DaAll.mono e t)
theorem DaAll.mono {H H' : Hp} (e : Same H H') {vs : List V} {ds : List PyData} :
    DaAll H vs ds → DaAll H' vs ds
  | .nil => .nil
  | .cons h t => .cons (Da.mono e h) (DaAll.mono e t)
end
theorem DaAll.len {H : Hp} : ∀ {vs : List V} {ds : List PyData}, DaAll H vs ds → vs.length = ds.length
  | _, _, .nil => rfl
  | _, _, .cons _ t => by simp [DaAll.len t]

theorem pairs_reads {P : Program} {w : World} {h : Heap} : ∀ {es : List DictEntry} {kvs : List (Key × V)}
    {vs : List (Key × Value)}, Pairs (mixKind P w) es vs → KV kvs vs →
    ReadsAll h (es.map (·.key)) (kvs.map fun p => kD p.1) [] ∧ Vals (kvs.map (·.2)) (es.map (·.val))
  | _, _, _, .nil, r => by cases r; exact ⟨.nil, .nil⟩
  | _, _, _, .cons (e := e) k1 k2 t, r => by
    cases r with
    | cons r1 r2 =>
      obtain ⟨q1, q2⟩ := pairs_reads (h := h) t r2
      obtain ⟨e1, e2⟩ := r1
      refine ⟨?_, .cons (show L2.RelV _ e.val by rw [k2]; exact e2) q2⟩
      rw [← e1] at k1
      have sh := keyIs_shape (show keyIs _ e.key = true from k1)
      simp only [List.map_cons]
      rcases sh with ⟨i, tk, z1, z2⟩ | ⟨x, tk, z1, z2⟩
      · rw [z1, z2]
        exact ReadsAll.cons (as := []) (bs := []) (.int i tk) q1
      · rw [z1, z2]
        exact ReadsAll.cons (as := []) (bs := []) (.str x tk) q1

section
variable {X : Cx} {pins : List (Addr × Obj)} {σ : L2.St} {H : Hp} {s : Shared}
mutual
theorem Da.reads (I : Inv X pins σ H s) {v : V} {d : PyData} {u : Value} :
    Da H v d → RelV v u → ∃ as, Reads s.heap u d as ∧ sysModules ∉ as
  | .non, r => by
    obtain rfl : u = Value.none := r
    exact ⟨_, .none, by simp⟩
  | .bl b, r => by
    obtain rfl : u = Value.bool b := r
    exact ⟨_, .bool b, by simp⟩
  | .int i, r => by
    obtain ⟨t, rfl⟩ := r
    exact ⟨_, .int i t, by simp⟩
  | .str x, r => by
    obtain ⟨t, rfl⟩ := r
    exact ⟨_, .str x t, by simp⟩
  | .lst (a := a) (xs := xs) n h t, r => by
    obtain rfl : u = Value.ref a := r
    obtain ⟨_, its, m, rv, ho⟩ := (show ObjOk X.prog X.w H s.heap a (.lst xs) from I.hok a _ h)
    obtain ⟨as, q, z⟩ := DaAll.reads I t rv
    refine ⟨_, .list (vs := its.toArray) ho rfl rfl (by simpa using q), ?_⟩
    intro hm
    rcases List.mem_cons.mp hm with e | e
    · exact n e.symm
    · exact z e
  | .tup (a := a) (xs := xs) h t, r => by
    obtain rfl : u = Value.ref a := r
    obtain ⟨_, its, rv, o, ho, hc, m, hd⟩ := (show ObjOk X.prog X.w H s.heap a (.tup xs) from I.hok a _ h)
    obtain ⟨as, q, z⟩ := DaAll.reads I t rv
    exact ⟨_, .tuple (vs := its.toArray) ho hc hd (by simpa using q), z⟩
  | .dic (a := a) (kvs := kvs) (ds := ds) h t, r => by
    obtain rfl : u = Value.ref a := r
    obtain ⟨_, ns, vs, kv, o, es, ep, ho, ex, hd, _, pr, _⟩ :=
      (show ObjOk X.prog X.w H s.heap a (.dK kvs) from I.hok a _ h)
    obtain ⟨q1, q2⟩ := pairs_reads (h := s.heap) pr kv
    obtain ⟨as, q3, z⟩ := DaAll.reads I t q2
    have hl := t.len
    have hl2 : (kvs.map fun p => kD p.1).length = ds.length := by simpa using hl
    have e1 : ((kvs.map fun p => kD p.1).zip ds).map (·.1) = kvs.map fun p => kD p.1 :=
      List.map_fst_zip (by omega)
    have e2 : ((kvs.map fun p => kD p.1).zip ds).map (·.2) = ds := List.map_snd_zip (by omega)
    refine ⟨_, .dict ho ex.1 hd (by rw [e1]; exact q1) (by rw [e2]; exact q3), ?_⟩
    intro hm
    rcases List.mem_cons.mp (show sysModules ∈ a :: ([] ++ as) by simpa using hm) with e | e
    · rw [← e] at ns
      simp at ns
    · exact z (by simpa using e)
theorem DaAll.reads (I : Inv X pins σ H s) {vs : List V} {ds : List PyData} {us : List Value} :
    DaAll H vs ds → Vals vs us → ∃ as, ReadsAll s.heap us ds as ∧ sysModules ∉ as
  | .nil, r => by
    cases r
    exact ⟨_, .nil, by simp⟩
  | .cons h t, r => by
    cases r with
    | cons r1 r2 =>
      obtain ⟨as, q1, z1⟩ := Da.reads I h r1
      obtain ⟨bs, q2, z2⟩ := DaAll.reads I t r2
      exact ⟨_, .cons q1 q2, by simp [z1, z2]⟩
end
end

/-- data that can be shown, and not too long -/
def OkD (d : PyData) : Prop :=
  d.showable = true ∧ d.leavesShort 600 = true ∧ d.weight ≤ 20000 ∧ d.depth ≤ 60
theorem OkD.size {d : PyData} (h : OkD d) : d.shown.length ≤ sizeLine := by
  have q := PyData.shown_le 600 (by decide) d h.2.1
  have e := h.2.2.1
  have e2 : (600 + 2) * d.weight ≤ 602 * 20000 := Nat.mul_le_mul (by decide) e
  rw [sizeLine_eq]
  omega

section
variable {X : Cx}
def rRep : List V → Hp → VK → Prop := fun xs H Q =>
  ∃ (v : V) (d : PyData), xs = [v] ∧ Da H v d ∧ OkD d ∧ Q (.str d.shown) H
theorem call_rep (gd : X.A.guards = some []) (hu : X.A.units + 64 < cLine) :
    CallR X (.builtin "repr") rRep := by
  intro pins s σ H xs us Q I r h
  obtain ⟨v, d, rfl, hd, ok, q⟩ := h
  obtain ⟨u, rfl, rv⟩ := vals1 r
  obtain ⟨as, R, nm⟩ := hd.reads I rv
  have hz := ok.size
  have hp := ok.2.2.2
  have hs := ok.1
  cases R with
  | none => exact PySem.P.repr_of_none ⟨.str _, H, I.tok _, ⟨_, rfl⟩, q⟩
  | bool b => exact PySem.P.repr_of_bool ⟨.str _, H, I.tok _, ⟨_, rfl⟩, q⟩
  | int i t =>
    have hi : i.natAbs.log2 < 1920 := by simpa [PyData.showable] using hs
    exact PySem.P.repr_of_int hi ⟨.str _, H, I.tok _, ⟨_, rfl⟩, q⟩
  | str y t => exact PySem.P.repr_of_str ⟨.str _, H, I.tok _, ⟨_, rfl⟩, q⟩ hz
  | list h1 h2 h3 h4 =>
    exact repr_of_reads' (.list h1 h2 h3 h4) hs (fun _ => nm) gd (by omega)
      (fun _ _ e => e) (fun h' u tk k => ⟨.str _, H, I.kept k, ⟨_, rfl⟩, q⟩) hz
  | tuple h1 h2 h3 h4 =>
    exact repr_of_reads' (.tuple h1 h2 h3 h4) hs (fun _ => nm) gd (by omega)
      (fun _ _ e => e) (fun h' u tk k => ⟨.str _, H, I.kept k, ⟨_, rfl⟩, q⟩) hz
  | dict h1 h2 h3 h4 h5 =>
    exact repr_of_reads' (.dict h1 h2 h3 h4 h5) hs (fun _ => nm) gd (by omega)
      (fun _ _ e => e) (fun h' u tk k => ⟨.str _, H, I.kept k, ⟨_, rfl⟩, q⟩) hz

/-- a list display, its place not that of sys.modules -/
def tLstS (t : TA) : TE := fun σ H Q => t σ H fun xs H1 => xs.length ≤ sizeLine ∧
  ∀ p, H1 p = none → p ≠ sysModules → Q (.ref p) (upd H1 p (.lst xs))
theorem pe_lstS {es : List Expr} {t : TA} {pos : Pos} (h : PA X es t) : PE X (.List es pos) (tLstS t) := by
  refine ⟨fun pins s σ H Q I hq => ?_⟩
  refine wpAny_List_spliced (thn (h.run pos pins s σ H _ I hq) fun us s1 ⟨xs, H1, I1, r, z, q⟩ =>
    ⟨by rw [← r.length]; exact z, ?_⟩)
  have fr : H1 s1.heap.objs.size = none := I1.hok.fresh (Nat.le_refl _)
  refine ⟨.ref s1.heap.objs.size, upd H1 s1.heap.objs.size (.lst xs), I1.laid (t' := s1.toks)
    (fun b u e => Heap.get?_push_of_some _ e) (Nat.le_refl _) ?_, rfl, q _ fr (Nat.ne_of_gt I1.big)⟩
  exact ⟨z, us, 0, r, Heap.get?_push_size _ rfl⟩

/-- isinstance(x, T) for data and a built-in T -/
def tyD : PyData → String
  | .none => "NoneType"
  | .bool _ => "bool"
  | .int _ => "int"
  | .str _ => "str"
  | .list _ => "list"
  | .tuple _ => "tuple"
  | .dict _ => "dict"
theorem Da.ty {K : PySem.W.Frag} {H : Hp} {v : V} {d : PyData} (h : Da H v d) :
    TyX K H v (.type (tyD d)) := by
  cases h with
  | non => exact .base .non
  | bl b => exact .base (.bl b)
  | int i => exact .base (.int i)
  | str x => exact .base (.str x)
  | lst n h t => exact .base (.lst h)
  | tup h t => exact .base (.tup h)
  | dic h t => exact .base (.dK h)
end

/-- the heap without what stands at r -/
def hide (r : Addr) (H : Hp) : Hp := fun q => if q = r then none else H q
theorem hide_same (r : Addr) (H : Hp) : Same (hide r H) H := fun b o e => by
  unfold hide at e
  split at e
  · cases e
  · exact e
theorem hide_get {r b : Addr} {H : Hp} {o : HO} (n : b ≠ r) (h : H b = some o) : hide r H b = some o := by
  unfold hide
  rw [if_neg n]
  exact h
end G
/-! The end of a row from a law's promise that may use that no repr is under way. -/
namespace G
open PySem PySem.Spec PyProof.Rows L2

theorem law_callG {P : Program} {w : World} {K : PySem.W.Frag} {mg mb : Str → Option Value} {k : Nat}
    {f a : Addr} {fd : FuncData} {x : Str} {sp : Sp} {st : Shared} {us : List Value} {ns : List Int}
    (inK : K.In st.heap) (hg : st.heap.Ns mainGlobals mg) (hb : st.heap.Ns builtinsNs mb)
    (bb : ∀ y : Str, y ≠ "__name__" → mb y = bootBuiltins y) (nl : st.heap.NoLimit)
    (gn : st.gens = #[])
    (ho : st.heap.get? a = some { cls := .type "list", data := .seq us.toArray }) (hi : IntsAre us ns)
    (hl : ns.length ≤ sizeLine) (rm : Room k callerA)
    (F : ∀ bs : Heap, K.In bs → bs.Ns mainGlobals mg → FnG P w K mg bs CX0 k f fd [x] sp)
    (bind : ∀ (s : Shared) (u : Value), BindsTo s fd ⟨[u], []⟩ [(x, u)])
    (hsp : ∀ H : Hp, Only H → SqL K H a (ns.map V.int) →
      sp [.ref a] H (fun v _ => v = .bl true) fun _ _ _ => False) :
    codeAny (model P w) callerA (.call (.ref f) ⟨[.ref a], []⟩)
      (fun r s' => r = .ok (.ret (.bool true)) ∧ OldK st.heap s'.heap ∧ s'.os = st.os ∧
        AllBare s'.gens) st := by
  have vls := vals_ints hi
  have len := hi.length
  have main : ∀ H : Hp, Only H → SqL K H a (ns.map V.int) → HOk P w H st.heap →
      (∀ b, H b ≠ none → b = a) → (H a ≠ none → K.lookup a = none) →
      codeAny (model P w) callerA (.call (.ref f) ⟨[.ref a], []⟩)
        (fun r s' => r = .ok (.ret (.bool true)) ∧ OldK st.heap s'.heap ∧ s'.os = st.os ∧
          AllBare s'.gens) st := by
    intro H only sq hok at_a noK
    have dict_free : ∀ {b : Addr} {o : Obj} {es : Array DictEntry} {ep : Nat},
        st.heap.get? b = some o → o.data = .dict es ep → H b = none := by
      intro b o es ep e d
      cases q : H b with
      | none => rfl
      | some z =>
        have e2 : b = a := at_a b (by rw [q]; simp)
        rw [e2, ho] at e
        cases e
        cases (show Data.seq us.toArray _ = Data.dict es ep from d)
    have keepN : ∀ {b : Addr} {m : Str → Option Value}, st.heap.Ns b m →
        (hidT st.heap H).Ns b m := by
      rintro b m ⟨o, es, ep, e, d, r⟩
      exact ⟨o, es, ep, hidT_get e (dict_free e d), d, r⟩
    have inB : K.In (hidT st.heap H) := by
      intro b o e
      refine hidT_get (inK b o e) ?_
      cases q : H b with
      | none => rfl
      | some z =>
        have e2 : b = a := at_a b (by rw [q]; simp)
        subst e2
        rw [noK (by rw [q]; simp)] at e
        cases e
    obtain ⟨mc, n1, n2⟩ := nl
    have md : Mod K mg (hidT st.heap H) := ⟨inB, keepN hg, ⟨mb, keepN hb, bb⟩, mc, keepN n1, n2⟩
    have ev : Env0 P w K mg (hidT st.heap H) callerA [] st H :=
      ⟨rfl, md, fun b o e => of_hidT e, Nat.le_of_eq (hidT_size _ _), trivial,
        fun b z => (by simp [frs] at z), hok, .of_eq gn⟩
    refine codeAny_mono ((F _ inB (keepN hg)).runG callerA [] st H ⟨[.ref a], []⟩ [.ref a] [.ref a]
      _ _ rfl rm ev (bind st (.ref a)) (.cons rfl .nil) (hsp H only sq)) fun r s2 z => ?_
    cases r with
    | error e => exact z.elim
    | ok fl =>
      cases fl with
      | next => exact z.elim
      | brk => exact z.elim
      | cont => exact z.elim
      | ret u =>
        obtain ⟨v, H2, os, bare, un, hok2, rv, q⟩ := z
        have qv : v = .bl true := q
        subst qv
        obtain rfl : u = Value.bool true := rv
        refine ⟨rfl, OldK.of_keep fun b o e => ?_, os, bare⟩
        cases q2 : H b with
        | none => exact un.keep b o e q2 (fun z => by simp [frs] at z) (by simp)
        | some z =>
          rcases only b with y | ⟨ob, xs, y⟩
          · rw [q2] at y
            cases y
          · obtain ⟨m1, _⟩ := hok b _ y
            obtain ⟨m2, _⟩ := hok2 b _ (un.frzs b ob _ y)
            rw [e] at m1
            cases m1
            exact m2
  cases hk : K.lookup a with
  | some o =>
    have e := inK a o hk
    rw [ho] at e
    cases e
    refine main (fun _ => none) (fun _ => .inl rfl) (.inr ⟨_, us.toArray, _, hk, rfl, rfl, rfl, ?_, ?_⟩)
      (fun b u z => nomatch (show (none : Option HO) = some u from z)) (fun b z => absurd rfl z)
      fun z => absurd rfl z
    · rw [List.size_toArray, len]
      exact hl
    · simpa using vls
  | none =>
    refine main (fun b => if b = a then some (.frz { cls := .type "list", data := .seq us.toArray }
      (.lst (ns.map V.int))) else none) (fun b => ?_) (.inl (.inr ⟨_, if_pos rfl⟩)) (fun b u z => ?_)
      (fun b z => ?_) fun _ => hk
    · by_cases e : b = a
      · exact .inr ⟨_, _, if_pos e⟩
      · exact .inl (if_neg e)
    · by_cases e : b = a
      · have z2 := (if_pos e).symm.trans z
        cases z2
        subst e
        exact ⟨ho, by rw [List.length_map]; exact hl, us, _, vls, ho⟩
      · have z2 := (if_neg e).symm.trans z
        cases z2
    · by_cases e : b = a
      · exact e
      · exact absurd (if_neg e) z

/-- the goal that the head leaves -/
theorem walk_ofG {l : PySem.W.OpenLaw} {n k : Nat} {q : Program} {loose : List Str}
    {XP : (Str → Option Value) → Heap → Prop} {YP : World → Heap → Prop} {d : DefRec}
    {K : Params → PySem.W.Frag} {sp : World → Sp} {x : Str} (hn : l.most = some n) (n2 : n ≤ sizeLine)
    (hd : d.params.defaults = []) (rm : Room k callerA)
    (hY : ∀ (w : World) (h : Heap), YP w h → (K w.params).In h)
    (F : ∀ (w : World) (mg : Str → Option Value) (fa : Addr) (h : Heap), (K w.params).In h →
      h.Ns mainGlobals mg → mg d.name = some (.ref fa) →
      ∃ fd : FuncData, (∀ (s : Shared) (u : Value), BindsTo s fd ⟨[u], []⟩ [(x, u)]) ∧
        ∀ bs : Heap, (K w.params).In bs → bs.Ns mainGlobals mg →
          FnG l.prog w (K w.params) mg bs CX0 k fa fd [x] (sp w))
    (hsp : ∀ (w : World) (H : Hp) (a : Addr) (ns : List Int), ns.length ≤ n → Only H →
      SqL (K w.params) H a (ns.map V.int) →
      sp w [.ref a] H (fun v _ => v = .bl true) fun _ _ _ => False) :
    PySem.W.WalkO q loose XP YP l.row.toRowW d [] (fun f vs => PySem.call f vs) := by
  refine Att.attach_call hn hd
    fun w s0 s1 mg mb fa o pm cd doc a us ns Gr Y _ _ _ hmg hobj hints hlen gn => ?_
  have inK := hY w _ Y
  obtain ⟨fd, hb, hF⟩ := F w mg fa _ inK Gr.T.g hmg
  exact law_callG inK Gr.T.g Gr.T.b Gr.T.builtins Gr.T.nolimit gn hobj hints
    (Nat.le_trans hlen n2) rm hF hb fun H hO hS => hsp w H a ns hlen hO hS
end G
/-! What the laws' texts have in common: the drawn numbers, heaps that grow, data that can be shown. -/
namespace G
open PySem PySem.Spec PyProof.Rows L2

def Rng (H : Hp) (r : Addr) : Prop :=
  ∃ a b : Int, H r = some (.lst [.int a, .int b]) ∧ 0 ≤ a ∧ 0 ≤ b ∧ b < 2147483587
/-- all but what stands at r is kept -/
def Ext (r : Addr) (H H' : Hp) : Prop := ∀ q o, q ≠ r → H q = some o → H' q = some o
theorem Ext.refl (r : Addr) (H : Hp) : Ext r H H := fun _ _ _ h => h
theorem Ext.trans {r : Addr} {H H1 H2 : Hp} (a : Ext r H H1) (b : Ext r H1 H2) : Ext r H H2 :=
  fun q o n h => b q o n (a q o n h)
theorem Ext.new {r p : Addr} {H : Hp} {o : HO} (h : H p = Option.none) : Ext r H (upd H p o) :=
  fun q u _ e => by rw [upd_ne (ne_of_none e h)]; exact e
theorem Ext.at {r : Addr} {H : Hp} {o : HO} : Ext r H (upd H r o) :=
  fun q u n e => by rw [upd_ne n]; exact e
theorem Ext.of {r : Addr} {H H' : Hp} (h : Same H H') : Ext r H H' := fun q o _ e => h q o e
theorem Ext.none {r p : Addr} {H H' : Hp} (e : Ext r H H') (n : p ≠ r) (h : H' p = Option.none) : H p = Option.none := by
  cases z : H p with
  | none => rfl
  | some o =>
    rw [e p o n z] at h
    cases h
theorem Rng.same {r : Addr} {H H' : Hp} (R : Rng H r) (s : Same H H') : Rng H' r := by
  obtain ⟨a, b, e, z⟩ := R
  exact ⟨a, b, s _ _ e, z⟩
theorem Rng.new {r p : Addr} {H : Hp} {o : HO} (R : Rng H r) (h : H p = Option.none) : Rng (upd H p o) r := by
  obtain ⟨a, b, e, z⟩ := R
  exact ⟨a, b, by rw [upd_ne (ne_of_none e h)]; exact e, z⟩
theorem Rng.put {r p : Addr} {H : Hp} {o : HO} (R : Rng H r) (h : p ≠ r) : Rng (upd H p o) r := by
  obtain ⟨a, b, e, z⟩ := R
  exact ⟨a, b, by rw [upd_ne h.symm]; exact e, z⟩
theorem Rng.free {r p : Addr} {H : Hp} (R : Rng H r) (h : H p = Option.none) : r ≠ p := by
  obtain ⟨a, b, e, z⟩ := R
  exact ne_of_none e h
theorem Rng.ne {r p : Addr} {H : Hp} {o : HO} (R : Rng H r) (h : H p = some o) (n : ∀ a b, o ≠ .lst [.int a, .int b]) : p ≠ r := by
  obtain ⟨a, b, e, z⟩ := R
  exact ne_of h e (n a b)
theorem new_same {p : Addr} {J : Hp} {o : HO} (h : J p = none) : Same J (upd J p o) :=
  fun b u e => by rw [upd_ne (ne_of_none e h)]; exact e

def spRng (K : PySem.W.Frag) : Sp := fun vs H Q _ => ∃ (a : Addr) (ns : List Int) (k : Int),
  vs = [.ref a, .int k] ∧ SqL K H a (ns.map V.int) ∧ 0 ≤ k ∧ k ≤ 1000 ∧
  ∀ r H', H r = none → Same H H' → Rng H' r → Q (.ref r) H'
def spDraw : Sp := fun vs H Q _ => ∃ (r : Addr) (m : Int), vs = [.ref r, .int m] ∧ Rng H r ∧ 0 < m ∧
  m.natAbs < 2 ^ 250 ∧ ∀ (d : Int) (H' : Hp), Ext r H H' → Rng H' r → 0 ≤ d → d < m → Q (.int d) H'
def spChoice (K : PySem.W.Frag) : Sp := fun vs H Q _ => ∃ (r l : Addr) (xs : List V),
  vs = [.ref r, .ref l] ∧ Rng H r ∧ SqL K H l xs ∧ l ≠ r ∧ 0 < xs.length ∧ xs.length ≤ 1000 ∧
  ∀ (v : V) (H' : Hp), Ext r H H' → Rng H' r → v ∈ xs → Q v H'
theorem Ext.sqL {K : PySem.W.Frag} {r a : Addr} {H H' : Hp} {xs : List V} (e : Ext r H H') (n : a ≠ r)
    (h : SqL K H a xs) : SqL K H' a xs := by
  rcases h with (h | ⟨o, h⟩) | h
  · exact .inl (.inl (e _ _ n h))
  · exact .inl (.inr ⟨o, e _ _ n h⟩)
  · exact .inr h
theorem sq_ext {K : PySem.W.Frag} {r a : Addr} {J0 J : Hp} {xs : List V} (h : SqL K J0 a xs) (n : J0 r = none)
    (e : Ext r J0 J) : SqL K J a xs := by
  rcases h with (h | ⟨o, h⟩) | h
  · exact .inl (.inl (e _ _ (ne_of_none h n) h))
  · exact .inl (.inr ⟨o, e _ _ (ne_of_none h n) h⟩)
  · exact .inr h
theorem at_in {α : Type} {xs : List α} {i : Int} {v : α} (h0 : 0 ≤ i)
    (h : xs[i.toNat]? = some v) : atI xs i = some v := by
  have e : i = ((i.toNat : Nat) : Int) := by omega
  rw [e]
  exact atI_nat h
theorem at_mem {α : Type} {xs : List α} {i : Int} (h0 : 0 ≤ i) (h1 : i < xs.length) :
    ∃ c, atI xs i = some c ∧ c ∈ xs := by
  have h2 : i.toNat < xs.length := by omega
  exact ⟨xs[i.toNat], at_in h0 (by simp [h2]), List.getElem_mem _⟩
theorem yesT {σ : L2.St} {H : Hp} {a b : Hp → Prop} (h : a H) :
    tYes σ H fun k J => if k = true then a J else b J := by
  show if true = true then a H else b H
  exact iteT h
theorem take_next {α : Type} {l : List α} {i : Nat} {c : α} (h : l[i]? = some c) :
    l.take (i + 1) = l.take i ++ [c] := by
  rw [List.take_add_one, h]
  rfl
def okB (d : PyData) : Bool :=
  d.showable && d.leavesShort 600 && decide (d.weight ≤ 20000) && decide (d.depth ≤ 60)
theorem okd {d : PyData} (h : okB d = true) : OkD d := by
  simp only [okB, Bool.and_eq_true, decide_eq_true_eq] at h
  exact ⟨h.1.1.1, h.1.1.2, h.1.2, h.2⟩

section
variable {X : Cx} {CX : CXT} {k : Nat} {f : Addr} {fd : FuncData} {ps ks : List Str} {sp : Sp} {E : XK}
  {x : Str} {p pos : Pos} {kws : List Keyword} {tk : TA}
/-- f(k = v, ..), keywords alone: o puts their values in the parameters' order -/
theorem pe_callKw {m : Nat} (oV : List V → List V) (o : List Value → List Value)
    (F : FnOk X.prog X.w X.K X.mg X.base CX k f fd ps sp) (rm : Room k X.A)
    (hg : Gl X x) (hm : X.mg x = some (.ref f)) (hk : PySem.W.keepIn X.K (.ref f) = true)
    (bt : ∀ (s : Shared) (ws : List Value), ws.length = m → BindsTo s fd ⟨[], ks.zip ws⟩ (ps.zip (o ws)))
    (rel : ∀ (zs : List V) (ws : List Value), zs.length = m → Vals zs ws → Vals (oV zs) (o ws)) (hx : Passes CX X E)
    (hkw : PK X kws tk)
    (a1 : (backToKw pos (keywordEach kws X.env)).all (·.1.isSome) = true := by rfl)
    (a2 : (backToKw pos (keywordEach kws X.env)).filterMap (·.1) = ks := by rfl)
    (n1 : (x == ("__debug__" : Str)) = false := by decide)
    (n3 : ((backTo pos (starEach [] X.env)).any (·.1) || (backToKw pos (keywordEach kws X.env)).any (·.1.isNone)) = false := by rfl) :
    PE X (.Call (.Name x p) [] kws pos) (fun σ H Q => tk σ H fun zs H1 => zs.length = m ∧ sp (oV zs) H1 Q E) := by
  refine ⟨fun pins s σ H Q J hw => ?_⟩
  refine wpAny_Call_Name_kw (ld_glob J hg hm ?_ n1)
  refine PySem.W.callWith_KW0 (h₀ := X.base) J.ok.mod.kin hk a1 (thn (hkw.run pos pins s σ H _ J hw)
    fun ws s1 ⟨zs, H1, J1, r1, l1, q1⟩ => ⟨J1.kIn, ?_⟩) n3
  rw [a2]
  have r2 := rel zs ws l1 r1
  refine wpAny_call (codeAny_mono (F.run X.A X.stack s1 H1 ⟨[], ks.zip ws⟩ (o ws) (oV zs) Q E
    rm J1.env0 (bt s1 ws (by rw [← r1.length]; exact l1)) r2 q1) fun r s2 z => ?_)
  cases r with
  | error er => exact hx pins σ H1 s1 er s2 J1 z
  | ok fl =>
    cases fl with
    | ret u => exact J1.after z
    | next => exact z.elim
    | brk => exact z.elim
    | cont => exact z.elim
end
end G
set_option maxHeartbeats 2000000
/-! Errors of the program's own that have fields: made, raised, caught, asked for their class. -/
namespace G
open PySem PySem.Spec PyProof.Rows PySem.Calls PySem.W L2

theorem findObj_dat {K : Frag} {C : Addr} {od : Option Obj} {nm : Str} {a g : Value} (h0 : (clsIn K C).isSome = true)
    (h1 : findIn K (.ref C) nm = some (some a)) (h2 : specialIn K a "__get__" = some (some g))
    (h3 : takesIn K a = some true) : findObj K C od nm = some (.bind g a) := by
  obtain ⟨cd, hc⟩ := Option.isSome_iff_exists.mp h0
  simp [findObj, hc, h1, h2, h3]

section
variable {prog : Program} {w : World} {A : Around} {E : Value → Shared → Prop} {s : Shared} {K : Frag} {x D : Addr} {ox : Obj} {od : Option Obj}
/-- the class of an error that has its fields -/
theorem cls_exc {Q : Option Value → Shared → Prop} (C : ExcC K D) (inK : K.In s.heap) (I : InstAt s.heap x ox D od)
    (h : Q (some (.ref D)) { s with toks := s.toks + 1 }) : wpAny (model prog w) A (getAttr? (.ref x) "__class__") Q E s := by
  have cs : (clsIn K D).isSome = true := by obtain ⟨cd, hc, _⟩ := any_some C.hd; rw [hc]; rfl
  have found : findObj K D od "__class__" = some (.bind (.builtin "getset_descriptor.__get__") (.builtin "object.__class__")) :=
    findObj_dat cs C.ha C.hn C.ht
  obtain ⟨hp, g, d, t, os⟩ := s
  have ty := I.type (M := model prog w)
  have l1 := looks_findIn (M := model prog w) inK C.hg
  have l2 := looks_findIn (M := model prog w) inK C.hk
  have l3 := looks_find (M := model prog w) inK I found
  have sb : Looks (model prog w) hp (isInstance (.ref x) (.type "BaseException")) true := ty.andThen (looks_subIn inK C.hs)
  have n0 : (false && onTheHeap (Value.builtin "BaseException.__getattribute__")) = false := rfl
  have n2 : (Value.builtin "BaseException.__getattribute__" == Value.builtin "object.__getattribute__") = false := by decide +kernel
  have n1 : (onTheHeap (Value.ref D) && Value.builtin "BaseException.__getattribute__" == Value.builtin "object.__getattribute__") = false := by
    rw [n2]; rfl
  unfold getAttr? getAttrBy? getAttrBy
  refine wpAny_bind (wpAny_mkText (wpAny_bind (wpAny_attempt (wpAny_holding (wpAny_bind (ty.at (wpAny_bind (l1.at ?_))))))))
  show wpAny _ _ (if (onTheHeap (Value.ref D) &&
    Value.builtin "BaseException.__getattribute__" == Value.builtin "object.__getattribute__") = true then _ else _) _ _ _
  rw [n1, if_neg Bool.false_ne_true]
  unfold getAttrByItsOwn hookBefore
  refine wpAny_bind ?_
  rw [if_pos (show onTheHeap (Value.ref D) = true from rfl)]
  refine l2.at (wpAny_bind (wpAny_attempt (wpAny_holding ?_)))
  unfold callGetattribute
  rw [n0, if_neg Bool.false_ne_true]
  unfold boundAndCalled
  rw [PySem.F.excAttr_ValueError.ga.bind (.ref x)]
  refine wpAny_bind (wpAny_pure ?_)
  show wpAny _ _ (call (.builtin "BaseException.__getattribute__")
    [.ref x, .str "__class__" t]) _ _ _
  refine wpAny_call (codeAny_call_builtin PySem.F.excAttr_ValueError.ga.plain
    PySem.F.entry_bexc_ga ?_)
  refine @check_slot (model prog w) _ _ ⟨hp, g, d, t + 1, os⟩ "BaseException.__getattribute__" "BaseException"
    "__getattribute__" (.ref x) [.str "__class__" t] [] _ (by decide +kernel) (by decide +kernel) sb
    (PySem.F.args_bexc_ga (.ref x) (.str "__class__" t)) ?_
  unfold Builtin.«object.__getattribute__»
  refine wpAny_bind (wpAny_of_eq (a := ((Value.ref x : Value), [Value.str "__class__" t]))
    (by first | rfl | (simp only [slotArgs]; rfl)) ?_)
  refine wpAny_bind (wpAny_pure (wpAny_bind (ty.at (wpAny_bind (l3.at ?_)))))
  show wpAny _ _ (holding [Value.builtin "object.__class__"] (call (.builtin "getset_descriptor.__get__")
    [.builtin "object.__class__", .ref x, .ref D]) >>= ret) _ _ _
  refine wpAny_bind (wpAny_holding (wpAny_call (class_get (s := ⟨hp, g, d, t + 1, os⟩) (ox := ox)
    (od := od) inK I C.hm ?_)))
  refine wpAny_pure ?_
  show wpAny _ _ (handedOut (.ref D)) _ _ _
  rw [handedOut_of (v := .ref D) rfl]
  first
    | exact wpAny_pure (wpAny_pure h)
    | exact wpAny_pure h
    | exact wpAny_pure (wpAny_bind (wpAny_pure (wpAny_pure h)))
theorem kit_exc (C : ExcC K D) : KitX K (.ref x) (.ref D) (fun h => InstAt h x ox D od) where
  ty := fun _ _ _ I => I.type
  it := fun _ _ inK _ => by
    obtain ⟨cd, hc, _⟩ := any_some C.hd
    unfold clsIn at hc
    split at hc
    · rename_i hob
      intro A' Q' E' s' k q
      unfold isType loadHead
      exact wpAny_bind (wpAny_loadPart (k _ _ (inK _ _ hob)) (wpAny_pure q))
    · cases hc
  ne := fun h tp dd its n sl inK htp => by
    obtain ⟨cd, hc, _⟩ := any_some C.hd
    refine Bool.eq_false_iff.mpr fun q => ?_
    have e : D = tp := Value.ref.inj (beq_iff_eq.mp q)
    subst e
    unfold clsIn at hc
    split at hc
    · rename_i hob
      have z := (inK _ _ hob).symm.trans htp
      cases z
    · cases hc
  ca := fun inK I k => cls_exc C inK I k
end
/-- isinstance(e, c), e the error that the suite holds, its dict at dd -/
theorem call_isX {X : Cx} {a D dd : Addr} {oe : Obj} {pn : List (Addr × Obj)} (C : ExcC X.K D)
    (hz : Zc (.ref D) (some dd) oe) (hf : ∃ vs, oe.data = .fields vs) :
    CallR (X.suite a ((a, oe) :: pn)) (.builtin "isinstance") (fun xs H Q => (∃ fs, H dd = some (.xd fs)) ∧ rIsE X.K D a xs H Q) := by
  intro pins s σ H xs us Q I r h
  obtain ⟨⟨fs, hx⟩, c, cv, b, rfl, hcv, e, q⟩ := h
  obtain ⟨u1, u2, rfl, r1, r2⟩ := vals2 r
  obtain rfl : u1 = Value.ref a := r1
  have ec := hcv _ r2
  subst ec
  obtain ⟨hget, _⟩ := I.pin (a, oe) (List.mem_append.mpr (.inl List.mem_cons_self))
  obtain ⟨vs, hv⟩ := hf
  obtain ⟨mA, ⟨od, es, ep, hod, _⟩, _⟩ := (show ObjOk X.prog X.w H s.heap dd (.xd fs) from I.hok dd _ hx)
  have J : InstAt s.heap a oe D (some od) := by
    obtain ⟨oc, odi, oda, osl⟩ := oe
    obtain ⟨h1, h2⟩ := hz
    dsimp only at h1 h2 hv
    subst h1 h2 hv
    exact ⟨hget, rfl, rfl, hod⟩
  exact kia_one (kit_exc C) I.kIn J e (fun z => nomatch z)
    fun tk => ⟨.bl b, H, I.kept (t' := tk) fun _ _ z => z, rfl, q⟩

/-- an error's own __init__ that keeps one field -/
def spIni (C : Addr) (f : Str) : Sp := fun vs H Q _ => ∃ (a : Addr) (v : V), vs = [.ref a, v] ∧ H a = some (exo a C none) ∧
  ∀ dx, H dx = none → dx ≠ a → Q .non (upd (upd H dx (exd dx [(f, v)])) a (exo a C (some dx)))
/-- what is known of such a class -/
structure XCls (P : Program) (w : World) (K : PySem.W.Frag) (mg : Str → Option Value) (bs : Heap) (nm : Str) (C : Addr) (f : Str) (p : Str) : Prop where
  oex : OexC K C
  xf : XfC K C
  exc : ExcC K C
  no : PySem.W.findIn K (.ref C) f = some none
  gC : mg nm = some (.ref C)
  ini : ∃ (fI : Addr) (fd : FuncData), PySem.W.findIn K (.ref C) "__init__" = some (some (.ref fI)) ∧
    PySem.W.typeIn K (.ref fI) = some (.type "function") ∧ FnOk P w K mg bs CX0 1 fI fd ["self", p] (spIni C f) ∧ Binds K fd ["self", p] []
/-- what the making of such an error comes to -/
theorem made_go {C : Addr} {f : Str} {v : V} {H : Hp} {R : XK} (h : ∀ d, H d = none → R (.ref C) (some d) (upd H d (.xd [(f, v)]))) :
    [v].length ≤ 1000 ∧ ∀ a, H a = none → spIni C f (.ref a :: ([v] ++ [])) (upd H a (exo a C none))
      (fun u H2 => u = .non ∧ ∃ (d : Addr) (fs : List (Str × V)), H2 a = some (exo a C (some d)) ∧ H2 d = some (exd d fs) ∧ H d = none ∧
        R (.ref C) (some d) (upd (del H2 a) d (.xd fs))) (fun _ _ _ => False) := by
  refine ⟨(by show 1 ≤ 1000; decide), fun a ha => ⟨a, v, rfl, upd_same, fun dx hdx ne => ⟨rfl, dx, [(f, v)], upd_same, ?_, ?_, ?_⟩⟩⟩
  · rw [upd_ne ne, upd_same]
  · rw [upd_ne ne] at hdx
    exact hdx
  · have hd : H dx = none := by
      rw [upd_ne ne] at hdx
      exact hdx
    have e : upd (del (upd (upd (upd H a (exo a C none)) dx (exd dx [(f, v)])) a (exo a C (some dx))) a) dx (.xd [(f, v)]) = upd H dx (.xd [(f, v)]) := by
      funext b
      by_cases h1 : b = dx
      · rw [h1, upd_same, upd_same]
      · rw [upd_ne h1, upd_ne h1]
        by_cases h2 : b = a
        · rw [h2, del_same, ha]
        · rw [del_ne h2, upd_ne h2, upd_ne h1, upd_ne h2]
    rw [e]
    exact h dx hd
/-- raise C(e) -/
theorem ps_raiseC {X : Cx} {W : WX} {nm : Str} {C : Addr} {f p : Str} {e : Expr} {te : TE} {np pos pos2 : Pos} (hc : X.calm = true)
    (T : XCls X.prog X.w X.K X.mg X.base nm C f p) (hr : Room 2 X.A) (tk : Takes X W) (hg : Gl X nm) (he : PE X e te)
    (hdb : (nm == ("__debug__" : Str)) = false := by decide) (hs : starEach [e] X.env = (false, eval e X.env) :: starEach [] X.env := by rfl) :
    PS X (.Raise (some (.Call (.Name nm np) [e] [] pos)) none pos2)
      (fun _ σ H => tMkO C (spIni C f) [] (tCons te tNil) σ H fun cls d H' => W cls d σ H') := by
  obtain ⟨fI, fd, h1, h2, h3, h4⟩ := T.ini
  exact ps_raise (pos := pos2) hc tk (pmk_oex (pos := pos) (p := np) T.oex h1 h2 h3 hr h4 .nil (fun _ _ _ _ _ _ _ h => h.elim) hg T.gC (pa_cons he pa_nil hs) hdb hs)
/-- the __init__ of such a class: self.f = p -/
theorem ok_ini {P : Program} {w : World} {K : PySem.W.Frag} {mg : Str → Option Value} {bs : Heap} {ql p f : Str} {st : Stmt} {fI C : Addr} {fd : FuncData}
    {q1 q2 q3 q4 : Pos} (F : Fun K "__init__" ql st fI fd) (S : FnScope ["self", p] ["self", p] (defScope st)) (T : OexC K C)
    (no : PySem.W.findIn K (.ref C) f = some none)
    (hb : defBody st = [.Assign [.Attribute (.Name "self" q1) f q2] (.Name p q3) q4])
    (h1 : (defScope st).names.lookup ("self" : Str) = some .local) (h2 : (defScope st).names.lookup p = some .local)
    (n1 : (p == ("__debug__" : Str)) = false) (n2 : (p == ("__classdict__" : Str)) = false) :
    FnOk P w K mg bs CX0 1 fI fd ["self", p] (spIni C f) := by
  refine F.ok S (fun vs H Q E h => ?_) (fun cdv A outer s H vs Q E hr h => ?_)
  · obtain ⟨a, v, rfl, _⟩ := h
    rfl
  · obtain ⟨a, v, rfl, ha, q⟩ := h
    rw [hb]
    refine ⟨_, pss_one (ps_ost (pe_var (i := 0) rfl (.inl h1) (by decide) (by decide)) (pe_var (i := 1) rfl (.inl h2) n1 n2)), ?_⟩
    exact ⟨_, rfl, _, rfl, a, C, rfl, T, no, .inl ⟨ha, fun dx hd ne => q dx hd ne⟩⟩

/-- as okG, for a def that errors may leave -/
theorem okGX {P : Program} {w : World} {K : PySem.W.Frag} {mg : Str → Option Value} {bs : Heap} {x ql : Str} {st : Stmt} {f : Addr} {fd : FuncData} {N ps : List Str} {k : Nat} {sp : Sp}
    (F : Fun K x ql st f fd) (S : FnScope N ps (defScope st)) (ln : ∀ vs H Q E, sp vs H Q E → vs.length = ps.length)
    (hb : ∀ (cv : Value) (A : Around) (ou : List Env) (s : Shared) (H : Hp) (vs : List V) (Q : VK) (E : XK), A.guards = some [] →
      Room k (A.deeper (envOfC ql (defScope st) s.heap.objs.size f cv)) → sp vs H Q E →
      ∃ t, PSs (cxOf (L2.CX P w) P w K mg bs N ql (defScope st) f cv A ou s H E) (defBody st) t ∧
        t { nx := fun _ J => Q .non J, rt := Q } (start N vs) H) : FnG P w K mg bs (L2.CX P w) (k + 1) f fd ps sp := by
  obtain ⟨oc, od, kV, doc, pm, an, cdv, ct, osl, rfl, lk, hcd⟩ := F.ex
  exact fn_ofG lk hcd S ln fun A ou s H vs Q E gd rm pr => hb cdv A ou s H vs Q E gd rm pr
end G
set_option maxHeartbeats 2000000
/-! Lambdas handed to a def, where no repr is under way: what stays when a table grows, and the end of a row. -/
namespace G
open PySem PySem.Spec PyProof.Rows L2 LamX

theorem ntL {xs : List V} (ps : Array Value) : HO.lst xs ≠ .tbl ps := fun z => by cases z
theorem ntT {xs : List V} (ps : Array Value) : HO.tup xs ≠ .tbl ps := fun z => by cases z
theorem ntD {xs : List (Key × V)} (ps : Array Value) : HO.dK xs ≠ .tbl ps := fun z => by cases z
theorem ntF {o : Obj} {u : HO} (ps : Array Value) : HO.frz o u ≠ .tbl ps := fun z => by cases z
mutual
theorem Da.monoN {H H' : Hp} (e : ExtN H H') {v : V} {d : PyData} : Da H v d → Da H' v d
  | .non => .non
  | .bl b => .bl b
  | .int i => .int i
  | .str x => .str x
  | .lst n h t => .lst n (e _ _ h ntL) (DaAll.monoN e t)
  | .tup h t => .tup (e _ _ h ntT) (DaAll.monoN e t)
  | .dic h t => .dic (e _ _ h ntD) (DaAll.monoN e t)
theorem DaAll.monoN {H H' : Hp} (e : ExtN H H') {vs : List V} {ds : List PyData} :
    DaAll H vs ds → DaAll H' vs ds
  | .nil => .nil
  | .cons h t => .cons (Da.monoN e h) (DaAll.monoN e t)
end
theorem Rng.extN {r : Addr} {H H' : Hp} (R : Rng H r) (s : ExtN H H') : Rng H' r := by
  obtain ⟨a, b, e, z⟩ := R
  exact ⟨a, b, s _ _ e ntL, z⟩
theorem sq_extN {K : PySem.W.Frag} {a : Addr} {J0 J : Hp} {xs : List V} (h : SqL K J0 a xs) (e : ExtN J0 J) : SqL K J a xs := by
  rcases h with (h | ⟨o, h⟩) | h
  · exact .inl (.inl (e _ _ h ntL))
  · exact .inl (.inr ⟨o, e _ _ h ntF⟩)
  · exact .inr h
theorem ExtN.same {H H' : Hp} (e : Same H H') : ExtN H H' := fun b o h _ => e b o h
/-- the tables where all but what stands at r is kept -/
theorem tabs_ext {T : List (Addr × Str)} {r : Addr} {H H' : Hp} (t : Tabs T H) (e : Ext r H H') (R : Rng H r) : Tabs T H' := by
  obtain ⟨a, b, er, _⟩ := R
  intro p hp
  obtain ⟨ps, h1, h2, h3⟩ := t p hp
  have n1 : p.1 ≠ r := fun z => by
    rw [z, er] at h1
    cases h1
  refine ⟨ps, e _ _ n1 h1, h2, fun pos cv hc => ?_⟩
  obtain ⟨c, e1, e2⟩ := h3 pos cv hc
  have n2 : c ≠ r := fun z => by
    rw [z, er] at e2
    unfold CodeO at e2
    cases e2
  exact ⟨c, e1, e _ _ n2 e2⟩
/-- all but the tables and what stands at r is kept -/
def ExtR (r : Addr) (H H' : Hp) : Prop := ∀ b o, b ≠ r → (∀ ps, o ≠ .tbl ps) → H b = some o → H' b = some o
theorem ExtR.refl (r : Addr) (H : Hp) : ExtR r H H := fun _ _ _ _ h => h
theorem ExtR.trans {r : Addr} {H H1 H2 : Hp} (a : ExtR r H H1) (b : ExtR r H1 H2) : ExtR r H H2 :=
  fun q o n m h => b q o n m (a q o n m h)
theorem ExtR.ext {r : Addr} {H H' : Hp} (e : Ext r H H') : ExtR r H H' := fun q o n _ h => e q o n h
theorem ExtR.extN {r : Addr} {H H' : Hp} (e : ExtN H H') : ExtR r H H' := fun q o _ m h => e q o h m
theorem sq_extR {K : PySem.W.Frag} {r a : Addr} {J0 J : Hp} {xs : List V} (h : SqL K J0 a xs) (n : J0 r = none)
    (e : ExtR r J0 J) : SqL K J a xs := by
  rcases h with (h | ⟨o, h⟩) | h
  · exact .inl (.inl (e _ _ (ne_of_none h n) ntL h))
  · exact .inl (.inr ⟨o, e _ _ (ne_of_none h n) ntF h⟩)
  · exact .inr h
/-- what leaves a lambda's body -/
theorem lam_takes {X : Cx} {A : Around} {ou : List Env} {s : Shared} {H : Hp} {E : XK} {sc : Scope} {f c : Addr} :
    Takes (lamCx X A ou s H E sc f c) (fun cls d _ H => E cls d H) := takes_of rfl rfl rfl rfl
theorem lam_pass {X : Cx} {A : Around} {ou : List Env} {s : Shared} {H : Hp} {E : XK} {sc : Scope} {f c : Addr} :
    Passes (L2.CX X.prog X.w) (lamCx X A ou s H E sc f c) E := passes_call (lam_takes) fun _ _ _ _ h => h

theorem law_callGT {P : Program} {w : World} {K : PySem.W.Frag} {mg mb : Str → Option Value} {k : Nat}
    {f a : Addr} {fd : FuncData} {x : Str} {sp : Sp} {st : Shared} {us : List Value} {ns : List Int}
    {cs : List (Addr × Addr)}
    (inK : K.In st.heap) (hg : st.heap.Ns mainGlobals mg) (hb : st.heap.Ns builtinsNs mb)
    (bb : ∀ y : Str, y ≠ "__name__" → mb y = bootBuiltins y) (nl : st.heap.NoLimit)
    (gn : st.gens = #[])
    (tb : ∀ p ∈ cs, PySem.W.CodeHd st.heap p.1 p.2 ∧ st.heap.get? p.2 = some (PySem.W.tabObj #[]))
    (nk : ∀ p ∈ cs, K.lookup p.2 = none)
    (bm : ∃ (m : Addr) (o : Obj), mg "__builtins__" = some (.ref m) ∧ m ≠ builtinsNs ∧
      st.heap.get? m = some o ∧ o.cls = .type "module" ∧ o.dict = some builtinsNs ∧ o.data = .plain)
    (ho : st.heap.get? a = some { cls := .type "list", data := .seq us.toArray }) (hi : IntsAre us ns)
    (hl : ns.length ≤ sizeLine) (rm : Room k callerA)
    (F : ∀ bs : Heap, K.In bs → bs.Ns mainGlobals mg → (∀ p ∈ cs, TabB bs mg p.1 p.2) →
      FnG P w K mg bs CX0 k f fd [x] sp)
    (bind : ∀ (s : Shared) (u : Value), BindsTo s fd ⟨[u], []⟩ [(x, u)])
    (hsp : ∀ H : Hp, (∀ p ∈ cs, H p.2 = some (.tbl #[])) → SqL K H a (ns.map V.int) →
      sp [.ref a] H (fun v _ => v = .bl true) fun _ _ _ => False) :
    codeAny (model P w) callerA (.call (.ref f) ⟨[.ref a], []⟩)
      (fun r s' => r = .ok (.ret (.bool true)) ∧ OldK st.heap s'.heap ∧ s'.os = st.os ∧
        AllBare s'.gens) st := by
  have vls := vals_ints hi
  have len := hi.length
  have tb2 : ∀ b, b ∈ cs.map (·.2) → st.heap.get? b = some (PySem.W.tabObj #[]) := by
    intro b q
    obtain ⟨p, hp, rfl⟩ := List.mem_map.mp q
    exact (tb p hp).2
  have main : ∀ H : Hp, (∀ p ∈ cs, H p.2 = some (.tbl #[])) →
      (∀ b u, H b = some u → (b = a ∧ K.lookup a = none ∧
        u = .frz { cls := .type "list", data := .seq us.toArray } (.lst (ns.map V.int))) ∨
        (b ∈ cs.map (·.2) ∧ u = .tbl #[])) → SqL K H a (ns.map V.int) →
      codeAny (model P w) callerA (.call (.ref f) ⟨[.ref a], []⟩)
        (fun r s' => r = .ok (.ret (.bool true)) ∧ OldK st.heap s'.heap ∧ s'.os = st.os ∧
          AllBare s'.gens) st := by
    intro H hT hO sq
    have hok : HOk P w H st.heap := by
      intro b u z
      rcases hO b u z with ⟨rfl, _, rfl⟩ | ⟨q, rfl⟩
      · exact ⟨ho, by rw [List.length_map]; exact hl, us, _, vls, ho⟩
      · exact tb2 b q
    -- what is neither a list nor an empty table is not told of
    have free : ∀ {b : Addr} {o : Obj}, st.heap.get? b = some o → (∀ vs n, o.data ≠ .seq vs n) →
        o.data ≠ .fields #[] → H b = none := by
      intro b o e h1 h2
      cases q : H b with
      | none => rfl
      | some u =>
        rcases hO b u q with ⟨rfl, _, _⟩ | ⟨z, _⟩
        · rw [ho] at e
          cases e
          exact absurd rfl (h1 us.toArray _)
        · rw [tb2 b z] at e
          cases e
          exact absurd rfl h2
    have keepN : ∀ {b : Addr} {m : Str → Option Value}, st.heap.Ns b m →
        (hidT st.heap H).Ns b m := by
      rintro b m ⟨o, es, ep, e, d, r⟩
      refine ⟨o, es, ep, hidT_get e (free e (fun vs n z => ?_) fun z => ?_), d, r⟩ <;>
      · rw [d] at z
        cases z
    have inB : K.In (hidT st.heap H) := by
      intro b o e
      refine hidT_get (inK b o e) ?_
      cases q : H b with
      | none => rfl
      | some z =>
        rcases hO b z q with ⟨rfl, n, _⟩ | ⟨y, _⟩
        · rw [n] at e
          cases e
        · obtain ⟨p, hp, rfl⟩ := List.mem_map.mp y
          rw [nk p hp] at e
          cases e
    obtain ⟨mc, n1, n2⟩ := nl
    have md : Mod K mg (hidT st.heap H) := ⟨inB, keepN hg, ⟨mb, keepN hb, bb⟩, mc, keepN n1, n2⟩
    have tB : ∀ p ∈ cs, TabB (hidT st.heap H) mg p.1 p.2 := by
      intro p hp
      obtain ⟨⟨o, vs, fl, tf, gs, tg, iF, tx, tt, e1, r1, r2, r3, rs⟩, e0⟩ := tb p hp
      refine ⟨⟨o, vs, fl, tf, gs, tg, iF, tx, tt, hidT_get e1 (free e1 ?_ ?_), r1, r2, r3, rs⟩, ?_, ?_⟩
      · intro ys n z
        rw [r2] at z
        cases z
      · intro z
        rw [r2] at z
        cases z
        simp at r3
      · obtain ⟨m, ob, b1, b2, b3, b4, b5, b6⟩ := bm
        have g1 : m ≠ mainGlobals := by
          intro q
          obtain ⟨o', es, ep, e', d', _⟩ := hg
          rw [q, e'] at b3
          cases b3
          rw [b6] at d'
          cases d'
        have g2 : m ≠ p.2 := by
          intro q
          rw [q, e0] at b3
          cases b3
          cases b6
        refine ⟨m, ob, b1, b2, g1, g2, hidT_get b3 (free b3 ?_ ?_), b4, b5, b6⟩
        · intro ys n z
          rw [b6] at z
          cases z
        · intro z
          rw [b6] at z
          cases z
      · intro q
        obtain ⟨o', es, ep, e', d', _⟩ := hg
        rw [q, e0] at e'
        cases e'
        cases d'
    have ev : Env0 P w K mg (hidT st.heap H) callerA [] st H :=
      ⟨rfl, md, fun b o e => of_hidT e, Nat.le_of_eq (hidT_size _ _), trivial,
        fun b z => (by simp [frs] at z), hok, .of_eq gn⟩
    refine codeAny_mono ((F _ inB (keepN hg) tB).runG callerA [] st H ⟨[.ref a], []⟩ [.ref a] [.ref a]
      _ _ rfl rm ev (bind st (.ref a)) (.cons rfl .nil) (hsp H hT sq)) fun r s2 z => ?_
    cases r with
    | error e => exact z.elim
    | ok fl =>
      cases fl with
      | next => exact z.elim
      | brk => exact z.elim
      | cont => exact z.elim
      | ret u =>
        obtain ⟨v, H2, os, bare, un, hok2, rv, q⟩ := z
        have qv : v = .bl true := q
        subst qv
        obtain rfl : u = Value.bool true := rv
        have key : ∀ b o, b ∉ cs.map (·.2) → st.heap.get? b = some o → s2.heap.get? b = some o := by
          intro b o nb e
          cases q2 : H b with
          | none => exact un.keep b o e q2 (fun z => by simp [frs] at z) (by simp)
          | some z =>
            rcases hO b z q2 with ⟨rfl, _, rfl⟩ | ⟨y, _⟩
            · obtain ⟨m1, _⟩ := hok b _ q2
              obtain ⟨m2, _⟩ := hok2 b _ (un.frzs b _ _ q2)
              rw [e] at m1
              cases m1
              exact m2
            · exact absurd y nb
        have grown : ∀ p ∈ cs, ∃ more : Array Value,
            s2.heap.get? p.2 = some (PySem.W.tabObj (#[] ++ more)) := by
          intro p hp
          obtain ⟨more, y⟩ := un.tbls p.2 #[] (hT p hp)
          exact ⟨more, hok2 p.2 _ y⟩
        refine ⟨rfl, ⟨fun b o e => ?_, fun b o e => ?_⟩, os, bare⟩
        · by_cases y : b ∈ cs.map (·.2)
          · obtain ⟨p, hp, rfl⟩ := List.mem_map.mp y
            obtain ⟨more, hm⟩ := grown p hp
            rw [(tb p hp).2] at e
            cases e
            exact .inr (.inl ⟨((tb p hp).1.tab (tb p hp).2).isCodeTable, rfl, #[], more, rfl, hm⟩)
          · exact .inl (key b o y e)
        · by_cases y : b ∈ cs.map (·.2)
          · obtain ⟨p, hp, rfl⟩ := List.mem_map.mp y
            obtain ⟨more, hm⟩ := grown p hp
            exact ⟨_, hm⟩
          · exact ⟨o, key b o y e⟩
  have aT : a ∉ cs.map (·.2) := by
    intro q
    have z := (tb2 a q).symm.trans ho
    cases z
  have m2 : ∀ p ∈ cs, p.2 ∈ cs.map (·.2) := fun p hp => List.mem_map_of_mem hp
  cases hk : K.lookup a with
  | some o =>
    have e := inK a o hk
    rw [ho] at e
    cases e
    refine main (fun b => if b ∈ cs.map (·.2) then some (.tbl #[]) else none) (fun p hp => if_pos (m2 p hp))
      (fun b u z => ?_) (.inr ⟨_, us.toArray, _, hk, rfl, rfl, rfl, ?_, ?_⟩)
    · by_cases y : b ∈ cs.map (·.2)
      · exact .inr ⟨y, (Option.some.inj ((if_pos y).symm.trans z)).symm⟩
      · cases (if_neg y).symm.trans z
    · rw [List.size_toArray, len]
      exact hl
    · simpa using vls
  | none =>
    refine main (fun b => if b = a then some (.frz { cls := .type "list", data := .seq us.toArray }
      (.lst (ns.map V.int))) else if b ∈ cs.map (·.2) then some (.tbl #[]) else none) (fun p hp => ?_)
      (fun b u z => ?_) (.inl (.inr ⟨_, if_pos rfl⟩))
    · have n1 : p.2 ≠ a := fun q => aT (q ▸ m2 p hp)
      exact (if_neg n1).trans (if_pos (m2 p hp))
    · by_cases y : b = a
      · exact .inl ⟨y, hk, (Option.some.inj ((if_pos y).symm.trans z)).symm⟩
      · have z1 := (if_neg y).symm.trans z
        by_cases y2 : b ∈ cs.map (·.2)
        · exact .inr ⟨y2, (Option.some.inj ((if_pos y2).symm.trans z1)).symm⟩
        · cases (if_neg y2).symm.trans z1

/-- what is known of a law's promise at the heap that the head leaves -/
def AtG (l : PySem.W.OpenLaw) (w : World) (K : PySem.W.Frag) (mg : Str → Option Value) (k n : Nat)
    (x : Str) (fa : Addr) (ms : List Str) : Prop :=
  ∃ (fd : FuncData) (cs : List (Addr × Addr)) (sp : Sp),
    (∀ p ∈ cs, ∃ m ∈ ms, PySem.W.tabIn K m = some p) ∧ (∀ p ∈ cs, K.lookup p.2 = none) ∧
    (∀ (s : Shared) (u : Value), BindsTo s fd ⟨[u], []⟩ [(x, u)]) ∧
    (∀ (H : Hp) (a : Addr) (ns : List Int), ns.length ≤ n → (∀ p ∈ cs, H p.2 = some (.tbl #[])) →
      SqL K H a (ns.map V.int) → sp [.ref a] H (fun v _ => v = .bl true) fun _ _ _ => False) ∧
    ∀ bs : Heap, K.In bs → bs.Ns mainGlobals mg → (∀ p ∈ cs, TabB bs mg p.1 p.2) →
      FnG l.prog w K mg bs CX0 k fa fd [x] sp
/-- the goal that the head leaves, for a law of whose defs some make lambdas -/
theorem walk_ofGT {l : PySem.W.OpenLaw} {n k : Nat} {q : Program} {loose : List Str}
    {XP : (Str → Option Value) → Heap → Prop} {YP : World → Heap → Prop} {d : DefRec}
    {K : Params → PySem.W.Frag} {x : Str} {ms : List Str} (hn : l.most = some n) (n2 : n ≤ sizeLine)
    (hd : d.params.defaults = []) (rm : Room k callerA)
    (hr : ∀ m ∈ ms, ((recsOf q).find? fun e => e.name == m).isSome = true)
    (hY : ∀ (w : World) (h : Heap), YP w h → (K w.params).In h)
    (F : ∀ (w : World) (mg : Str → Option Value) (fa : Addr) (h : Heap), (K w.params).In h →
      h.Ns mainGlobals mg → mg d.name = some (.ref fa) → AtG l w (K w.params) mg k n x fa ms) :
    PySem.W.WalkO q loose XP YP l.row.toRowW d [] (fun f vs => PySem.call f vs) := by
  refine Att.attach_call hn hd
    fun w s0 s1 mg mb fa o pm cd doc a us ns Gr Y _ _ _ hmg hobj hints hlen gn => ?_
  have inK := hY w _ Y
  obtain ⟨fd, cs, sp, ht, nk, hb, hsp, hF⟩ := F w mg fa _ inK Gr.T.g hmg
  refine law_callGT inK Gr.T.g Gr.T.b Gr.T.builtins Gr.T.nolimit gn (fun p hp => ?_) nk Gr.T.bmain hobj hints
    (Nat.le_trans hlen n2) rm hF hb fun H hT hS => hsp H a ns hlen hT hS
  obtain ⟨m, hm, e⟩ := ht p hp
  obtain ⟨dm, hdm⟩ := Option.isSome_iff_exists.mp (hr m hm)
  exact PySem.W.tab_of Gr.T inK hdm e
end G
set_option maxHeartbeats 2000000
/-! Rules that the hand layer lacks: list.count of bools, list(t) off sys.modules, t[::-1] of a pair, isinstance by a tuple of classes. -/
namespace G
open PySem PySem.Spec PyProof.Rows PySem.W L2
section
variable {X : Cx}
theorem bools_read {h : Heap} : ∀ {bs : List Bool} {us : List Value}, Vals (bs.map V.bl) us → ReadsAll h us (bs.map PyData.bool) []
  | [], us, r => by
    cases r
    exact .nil
  | b :: bs, us, r => by
    cases r with
    | cons r1 r2 =>
      rename_i u us'
      obtain rfl : u = Value.bool b := r1
      exact .cons (.bool b) (bools_read r2)
theorem bools_all (bs : List Bool) : (bs.map PyData.bool).all Shape.bool.has = true := by
  rw [List.all_eq_true]
  intro d hd
  obtain ⟨b, _, rfl⟩ := List.mem_map.mp hd
  rfl
/-- xs.count(b) of a list of bools -/
def rCountB (K : Frag) : V → List V → Hp → VK → Prop := fun x xs H Q => ∃ (a : Addr) (bs : List Bool) (k : Bool),
  x = .ref a ∧ xs = [.bl k] ∧ SqL K H a (bs.map V.bl) ∧ Q (.int (countIn (.bool k) (bs.map PyData.bool))) H
theorem mt_countB : MtR X "list.count" (rCountB X.K) := by
  intro pins s σ H x xs v us Q I rx rs h
  obtain ⟨a, bs, k, rfl, rfl, hl, q⟩ := h
  cases rx
  obtain ⟨u, rfl, ru⟩ := vals1 rs
  obtain rfl : u = Value.bool k := ru
  obtain ⟨its, rv, pl, hz⟩ := I.list hl
  exact count_list_bools pl.isList (bools_read (h := s.heap) rv) (bools_all bs) ⟨.int _, H, I.tok _, ⟨_, rfl⟩, q⟩

/-- list(x) of a list or a tuple, its place not that of sys.modules -/
theorem call_listS : CallR X (.type "list") (fun xs H Q => ∃ (p : Addr) (ys : List V), xs = [.ref p] ∧
    (SqL X.K H p ys ∨ SqT X.K H p ys) ∧ ∀ l, H l = none → l ≠ sysModules → Q (.ref l) (upd H l (.lst ys))) := by
  intro pins s σ H xs us Q I r h
  obtain ⟨p, ys, rfl, hq, q⟩ := h
  obtain ⟨u, rfl, rx⟩ := vals1 r
  cases rx
  have fin : ∀ (its : List Value), Vals ys its → ys.length ≤ sizeLine → ∀ (h' : Heap) (c' : Nat),
      (∀ b o', s.heap.get? b = some o' → h'.get? b = some o') →
      h'.get? s.heap.objs.size = some { cls := .type "list", dict := none, data := .seq its.toArray c', slots := #[] } →
      EP X pins σ Q (.ref s.heap.objs.size) { s with heap := h' } := by
    intro its r' hz h' c' kp e
    refine ⟨.ref s.heap.objs.size, _, I.laid (t' := s.toks) kp (Nat.le_refl _) (o := .lst ys) ?_, rfl,
      q _ (I.hok.fresh (Nat.le_refl _)) (Nat.ne_of_gt I.big)⟩
    exact ⟨hz, its, c', r', e⟩
  rcases hq with hq | hq
  · obtain ⟨its, r', pl, hz⟩ := I.list hq
    have hlen := r'.length
    obtain ⟨o, ho, hc, n, hd⟩ := pl.isList
    refine call_list_seq p (.inl rfl) ho hc hd (fun h' c' kp e => fin its r' hz h' c' kp e) ?_
    simp only [List.size_toArray]
    omega
  · obtain ⟨its, r', pl, hz⟩ := I.tuple hq
    have hlen := r'.length
    obtain ⟨o, ho, hc, n, hd⟩ := pl
    refine call_list_seq p (.inr rfl) ho hc hd (fun h' c' kp e => fin its r' hz h' c' kp e) ?_
    simp only [List.size_toArray]
    omega

theorem applied_rev2 {prog : Program} {w : World} {A : Around} {E : Value → Shared → Prop} {s : Shared} {sl : Addr} {vl vu vs : Value}
    {Q : Int × Int × Nat → Shared → Prop} (hs : s.heap.IsSliceOf sl vl vu vs) (pl : IsPart vl none) (pu : IsPart vu none) (ps : IsPart vs (some (-1)))
    (h : Q (1, -1, 2) s) : wpAny (model prog w) A (Builtin.Slice.sliceApplied (.ref sl) (pure ((2 : Nat) : Int))) Q E s := by
  obtain ⟨o, ho, hc, hd⟩ := id hs
  unfold Builtin.Slice.sliceApplied Builtin.Slice.sliceFields
  refine wpAny_bind (wpAny_bind (wpAny_field ho hd (x := vl) rfl ?_))
  refine wpAny_bind (wpAny_field ho hd (x := vu) rfl ?_)
  refine wpAny_bind (wpAny_field ho hd (x := vs) rfl (wpAny_pure ?_))
  refine wpAny_bind (HT.slicePart_ ps ?_)
  show wpAny _ _ (if ((-1 : Int) == 0) = true then _ else _) _ _ s
  rw [if_neg (by decide)]
  refine wpAny_bind (HT.slicePart_ pl ?_)
  refine wpAny_bind (HT.slicePart_ pu ?_)
  refine wpAny_bind (wpAny_pure ?_)
  exact wpAny_pure h
theorem item_rev2 {prog : Program} {w : World} {A : Around} {E : Value → Shared → Prop} {s : Shared} {t sl : Addr} {a b vl vu vs : Value}
    {Q : Value → Shared → Prop} (ht : IsTup s.heap t #[a, b]) (hs : s.heap.IsSliceOf sl vl vu vs) (pl : IsPart vl none) (pu : IsPart vu none) (ps : IsPart vs (some (-1)))
    (h : Q (.ref s.heap.objs.size) { s with heap := s.heap.push { cls := .type "tuple", data := .seq #[b, a] } }) :
    wpAny (model prog w) A (getItem (.ref t) (.ref sl)) Q E s := by
  have hk : sizeOk (.seq #[b, a]) := by
    show 2 ≤ sizeLine
    decide
  obtain ⟨o, ho, hc, hd⟩ := id hs
  have ty : s.TypeIs (.ref sl) "slice" := ⟨o, ho, hc⟩
  unfold getItem
  try with_reducible refine wpAny_holding ?_
  first
    | refine wpAny_bind (wpAny_pure ?_)
    | skip
  refine wpAny_bind (wpAny_sequenceKey ht.typeIs (by decide) ?_)
  refine wpAny_bind (wpAny_callSpecial?_slot (name := Str.ofString "__getitem__") ht.typeIs
    PyProof.Rows.slot_tuple_getitem (wpAny_call_entry PyProof.Rows.slot_tuple_getitem ht.typeIs
      PyProof.Rows.entry_tuple_getitem ?_ (PyProof.Rows.args_tuple_getitem _ _)))
  show wpAny _ _ (Builtin.Tuple.tupleItemsOf (.ref t) >>= _) _ _ s
  refine wpAny_bind (tupleItemsOf_ ht ?_)
  refine wpAny_bind (wpAny_typeOf ty ?_)
  rw [if_pos (by decide)]
  refine wpAny_bind (applied_rev2 hs pl pu ps ?_)
  show wpAny _ _ (if ((1 : Int) == 0 && (-1 : Int) == 1 && (2 : Nat) == 2) = true then _ else _) _ _ s
  rw [if_neg (by decide)]
  first
    | exact wpAny_bind (m := Builtin.Tuple.tupleExact _) (wpAny_newObj_type (wpAny_pure ⟨_, rfl, wpAny_pure h⟩) hk)
    | exact wpAny_bind (wpAny_bind (m := Builtin.Tuple.tupleExact _) (wpAny_newObj_type (wpAny_pure ⟨_, rfl, wpAny_pure h⟩) hk))
    | exact wpAny_bind (wpAny_bind (m := Builtin.Tuple.tupleExact _) (wpAny_newObj_type (wpAny_pure (wpAny_pure ⟨_, rfl, wpAny_pure h⟩)) hk))
/-- t[::-1] of a pair -/
def tRev2 (K : Frag) (te : TE) : TE := fun σ H Q => te σ H fun x H1 => ∃ (a : Addr) (y z : V), x = .ref a ∧ SqT K H1 a [y, z] ∧
  ∀ p, H1 p = none → Q (.ref p) (upd H1 p (.tup [z, y]))
theorem pe_rev2 {e : Expr} {te : TE} {k : Nat} {p1 p2 p3 pos : Pos} (he : PE X e te) :
    PE X (.Subscript e (.Slice none none (some (.UnaryOp .USub (.Constant (.int 1) k p1) p2)) p3) pos) (tRev2 X.K te) := by
  refine ⟨fun pins s σ H Q I h => ?_⟩
  refine Subscript_ (thn (he.run pins s σ H _ I h) fun v s1 ⟨x, H1, I1, r1, q1⟩ => ?_)
  obtain ⟨a, y, z, ex, hx, q⟩ := q1
  subst ex
  cases r1
  have stp : PO X (some (.UnaryOp .USub (.Constant (.int 1) k p1) p2)) (tPart (tUn (rU fun i => .int (-i)) (tC (.int 1)))) :=
    po_some (pe_un un_neg pe_int)
  refine wpAny_Slice (thn (po_none.run pins s1 σ H1 (fun o J => o = none ∧ J = H1) I1 ⟨rfl, rfl⟩)
    fun vl s2 ⟨l, H2, I2, pl, el, e2⟩ => ?_)
  subst el e2
  refine thn (po_none.run pins s2 σ H2 (fun o J => o = none ∧ J = H2) I2 ⟨rfl, rfl⟩)
    fun vu s3 ⟨u, H3, I3, pu, eu, e3⟩ => ?_
  subst eu e3
  refine thn (stp.run pins s3 σ H3 (fun o J => o = some (-1) ∧ J = H3) I3 ⟨1, rfl, -1, rfl, rfl, rfl⟩)
    fun vs s4 ⟨o, H4, I4, ps, eo, e4⟩ => ?_
  subst eo e4
  have I5 : Inv X pins σ H4 { s4 with heap := s4.heap.push { cls := .type "slice", data := .fields #[vl, vu, vs] } } :=
    I4.kept (t' := s4.toks) fun b ob q => Heap.get?_push_of_some _ q
  obtain ⟨its, r, ht, hz⟩ := I5.tuple hx
  obtain ⟨uy, uz, rfl, ry, rz⟩ := vals2 r
  show wpAny (model X.prog X.w) X.A (subscriptTail e (.Slice none none (some (.UnaryOp .USub (.Constant (.int 1) k p1) p2)) p3)
    (.ref a) (.ref s4.heap.objs.size)) (EP X pins σ Q) X.xe
    { s4 with heap := s4.heap.push { cls := .type "slice", data := .fields #[vl, vu, vs] } }
  refine tail_any (ops := [.ref a, .ref s4.heap.objs.size]) ht.typeIs PyProof.Rows.slot_tuple_getitem.lookup ?_ (by with_unfolding_all rfl)
  refine item_rev2 ht (Heap.IsSliceOf.new _ vl vu vs) pl pu ps ?_
  refine ⟨.ref _, _, I5.laid (t' := s4.toks) (o := .tup [z, y]) (fun b ob q => Heap.get?_push_of_some _ q) (Nat.le_refl _) ?_, rfl,
    q _ (I5.hok.fresh (Nat.le_refl _))⟩
  exact ⟨by show 2 ≤ sizeLine; decide, _, .cons rz (.cons ry .nil), IsTup.new _ _⟩

/-- isinstance(e, (C, D, ..)), e the error that the suite holds -/
theorem call_isXT {a : Addr} {oe : Obj} {cls : Value} {d : Option Addr} {pn : List (Addr × Obj)} (hz : Zc cls d oe) (hf : ∃ vs, oe.data = .fields vs) :
    CallR (X.suite a ((a, oe) :: pn)) (.builtin "isinstance") (fun xs H Q => ∃ (D dd tp : Addr) (cs : List V) (cv : List Value) (b : Bool),
      cls = .ref D ∧ d = some dd ∧ ExcC X.K D ∧ (∃ fs, H dd = some (.xd fs)) ∧ xs = [.ref a, .ref tp] ∧ SqT X.K H tp cs ∧
      (∀ us, Vals cs us → us = cv) ∧ kitAny X.K (.ref D) cv = some b ∧ Q (.bl b) H) := by
  intro pins s σ H xs us Q I r h
  obtain ⟨D, dd, tp, cs, cv, b, rfl, rfl, C, ⟨fs, hx⟩, rfl, ht, hc, e, q⟩ := h
  obtain ⟨u1, u2, rfl, r1, r2⟩ := vals2 r
  obtain rfl : u1 = Value.ref a := r1
  obtain rfl : u2 = Value.ref tp := r2
  obtain ⟨hget, _⟩ := I.pin (a, oe) (List.mem_append.mpr (.inl List.mem_cons_self))
  obtain ⟨vs, hv⟩ := hf
  obtain ⟨mA, ⟨od, es, ep, hod, _⟩, _⟩ := (show ObjOk X.prog X.w H s.heap dd (.xd fs) from I.hok dd _ hx)
  obtain ⟨its, rv, tt, _⟩ := I.tuple ht
  have ei := hc its rv
  subst ei
  obtain ⟨⟨c0, d0, dt, sl⟩, h1, h2, n, h3⟩ := tt
  simp only at h2 h3
  subst h2 h3
  have J : InstAt s.heap a oe D (some od) := by
    obtain ⟨oc, odi, oda, osl⟩ := oe
    obtain ⟨h1, h2⟩ := hz
    dsimp only at h1 h2 hv
    subst h1 h2 hv
    exact ⟨hget, rfl, rfl, hod⟩
  exact kia_tup (kit_exc C) I.kIn J h1 e (fun z => nomatch z)
    fun tk => ⟨.bl b, H, I.kept (t' := tk) fun _ _ z => z, rfl, q⟩
end
end G
set_option maxHeartbeats 2000000
namespace G
open PySem PySem.Spec PyProof.Rows PySem.Calls PySem.W L2
section
variable {X : Cx}
/-- s[::-1] of a text: some text of no more signs, all of them its own -/
def tRevS (te : TE) : TE := fun σ H Q => te σ H fun x H1 => ∃ z : Str, x = .str z ∧ z.length ≤ sizeLine ∧
  ∀ y : Str, y.length ≤ z.length → (∀ c ∈ y.cps.toList, c ∈ z.cps.toList) → Q (.str y) H1
theorem pe_revS {e : Expr} {te : TE} {k : Nat} {p1 p2 p3 pos : Pos} (he : PE X e te) :
    PE X (.Subscript e (.Slice none none (some (.UnaryOp .USub (.Constant (.int 1) k p1) p2)) p3) pos) (tRevS te) := by
  refine ⟨fun pins s σ H Q I h => ?_⟩
  refine Subscript_ (thn (he.run pins s σ H _ I h) fun v s1 ⟨x, H1, I1, r1, q1⟩ => ?_)
  obtain ⟨z, ex, hz, q⟩ := q1
  subst ex
  obtain ⟨tz, rfl⟩ := r1
  have stp : PO X (some (.UnaryOp .USub (.Constant (.int 1) k p1) p2)) (tPart (tUn (rU fun i => .int (-i)) (tC (.int 1)))) :=
    po_some (pe_un un_neg pe_int)
  refine wpAny_Slice (thn (po_none.run pins s1 σ H1 (fun o J => o = none ∧ J = H1) I1 ⟨rfl, rfl⟩)
    fun vl s2 ⟨l, H2, I2, pl, el, e2⟩ => ?_)
  subst el e2
  refine thn (po_none.run pins s2 σ H2 (fun o J => o = none ∧ J = H2) I2 ⟨rfl, rfl⟩)
    fun vu s3 ⟨u, H3, I3, pu, eu, e3⟩ => ?_
  subst eu e3
  refine thn (stp.run pins s3 σ H3 (fun o J => o = some (-1) ∧ J = H3) I3 ⟨1, rfl, -1, rfl, rfl, rfl⟩)
    fun vs s4 ⟨o, H4, I4, ps, eo, e4⟩ => ?_
  subst eo e4
  obtain ⟨l', rfl, el⟩ := IsPart.raw pl
  obtain ⟨u', rfl, eu⟩ := IsPart.raw pu
  obtain ⟨st', rfl, es⟩ := IsPart.raw ps
  have I5 : Inv X pins σ H4 { s4 with heap := s4.heap.push { cls := .type "slice", data := .fields #[partValue l', partValue u', partValue st'] } } :=
    I4.kept (t' := s4.toks) fun b ob q => Heap.get?_push_of_some _ q
  show wpAny (model X.prog X.w) X.A (subscriptTail e (.Slice none none (some (.UnaryOp .USub (.Constant (.int 1) k p1) p2)) p3)
    (.str z tz) (.ref s4.heap.objs.size)) (EP X pins σ Q) X.xe
    { s4 with heap := s4.heap.push { cls := .type "slice", data := .fields #[partValue l', partValue u', partValue st'] } }
  refine tail_any (ops := [.str z tz, .ref s4.heap.objs.size]) (typeIs_str _ _ _) F.slot_str_getitem.lookup ?_ (by with_unfolding_all rfl)
  refine wpAny_getItem_str_slice (l := l') (u := u') (st := st') ⟨_, Heap.get?_push_size _ rfl, rfl, rfl⟩ (by rw [es]; rfl) ?_
  have pk : (slicePicked z l' u' st').length ≤ z.length := by
    unfold slicePicked Builtin.Str.strSliceIndices
    rw [el, eu, es]
    exact sliceRange_length_le _ _ _ _ (fun h => absurd h (by decide)) (fun _ => ⟨by show (z.length : Int) - 1 ≤ _; omega, by show (-1 : Int) ≤ -1; omega⟩)
  have ly : (⟨((slicePicked z l' u' st').filterMap (z.cps[·]?)).toArray⟩ : Str).length ≤ z.length := by
    show (List.toArray _).size ≤ _
    rw [List.size_toArray]
    exact Nat.le_trans (List.length_filterMap_le _ _) pk
  have cy : ∀ c ∈ (⟨((slicePicked z l' u' st').filterMap (z.cps[·]?)).toArray⟩ : Str).cps.toList, c ∈ z.cps.toList := by
    intro c hc
    have hc2 : c ∈ (slicePicked z l' u' st').filterMap (z.cps[·]?) := by simpa using hc
    obtain ⟨i, _, hi⟩ := List.mem_filterMap.mp hc2
    rw [← Array.getElem?_toList] at hi
    exact List.mem_of_getElem? hi
  have qy := q _ ly cy
  unfold sliceMade
  rw [es]
  show Made.post (if (((some (-1 : Int)).getD 1 == 1) && _) = true then _ else _) _ _
  rw [show ((some (-1 : Int)).getD 1 == 1) = false from rfl, Bool.false_and, if_neg Bool.false_ne_true]
  exact ⟨Nat.le_trans ly hz, .str _, H4, I5.tok _, ⟨_, rfl⟩, qy⟩
end
end G
namespace N4
open PySem L2 G
abbrev Wn := Int × Option Int
abbrev DIG : Str := "0123456789"
abbrev DOT : Str := ".."
def dig (c : Nat) : Bool := decide (c ∈ DIG.cps.toList)
theorem digL : DIG.cps.toList = [48, 49, 50, 51, 52, 53, 54, 55, 56, 57] := by decide +kernel
theorem dig_iff (c : Nat) : dig c = true ↔ 48 ≤ c ∧ c ≤ 57 := by
  unfold dig
  rw [decide_eq_true_eq, digL]
  simp only [List.mem_cons, List.not_mem_nil, or_false]
  omega
def hd0 (z : Str) : Bool := decide (z.cps.toList.head? = some 48)
/-- a number as it is written -/
def canon (z : Str) : Bool := !decide (z = "") && (z.cps.toList.all dig && (decide (z = "0") || !hd0 z))
def val (z : Str) : Int := (NumText.digitsVal z.cps.toList : Nat)
theorem val_nn (z : Str) : 0 ≤ val z := by unfold val; omega
theorem empL : ("" : Str).cps.toList = [] := by decide +kernel
theorem zeroL : ("0" : Str).cps.toList = [48] := by decide +kernel
theorem dotL : DOT.cps.toList = [46, 46] := by decide +kernel
theorem dotLen : DOT.length = 2 := by decide +kernel
theorem canon_parts {z : Str} (h : canon z = true) : NumText.AllDigits z.cps.toList ∧ z.cps.toList ≠ [] ∧ (z = "0" ∨ hd0 z = false) := by
  unfold canon at h
  simp only [Bool.and_eq_true, Bool.or_eq_true, Bool.not_eq_true', decide_eq_true_eq, decide_eq_false_iff_not] at h
  obtain ⟨h1, h2, h3⟩ := h
  refine ⟨fun c hc => ?_, fun e => h1 (TL.ext_tl (by rw [show TL.tl z = [] from e]; exact empL.symm)), h3⟩
  have := List.all_eq_true.mp h2 c hc
  exact (dig_iff c).mp this
theorem canon_int {z : Str} (h : canon z = true) (hl : z.length ≤ 640) : intText? z = some (val z) := by
  obtain ⟨h1, h2, _⟩ := canon_parts h
  exact PySem.intText_digits h1 h2 (Nat.le_trans hl (by decide))
theorem numL_val' {cs : List Nat} (h : NumText.AllDigits cs) (h2 : cs ≠ []) (h3 : cs.length = 1 ∨ ∃ c r, cs = c :: r ∧ 49 ≤ c) : TL.numL (NumText.digitsVal cs) = cs := by
  unfold TL.numL
  obtain ⟨n, hn⟩ : ∃ n, cs.length = n + 1 := by
    cases cs with
    | nil => exact absurd rfl h2
    | cons c r => exact ⟨r.length, rfl⟩
  rw [NumText.toDigits_digitsVal n cs hn h (h3.elim (fun e => .inl (by omega)) .inr), List.map_map]
  have e : cs.map (Char.toNat ∘ Char.ofNat) = cs.map id := by
    apply List.map_congr_left
    intro c hc
    have r := h c hc
    have : ∀ d : Nat, d < 58 → (Char.ofNat d).toNat = d := by decide
    exact this c (by omega)
  rw [e, List.map_id]
theorem canon_str {z : Str} (h : canon z = true) : (Str.ofString (toString (val z)) : Str) = z := by
  obtain ⟨h1, h2, h3⟩ := canon_parts h
  apply TL.ext_tl
  unfold val
  rw [TL.tl_num]
  refine numL_val' h1 h2 ?_
  rcases h3 with rfl | h3
  · left
    rw [zeroL]
    rfl
  · cases e : z.cps.toList with
    | nil => exact absurd e h2
    | cons c r =>
      right
      refine ⟨c, r, rfl, ?_⟩
      have r1 := h1 c (by rw [e]; simp)
      unfold hd0 at h3
      rw [e] at h3
      have : ¬ c = 48 := by simpa using h3
      omega
theorem numL_head : ∀ n : Nat, 0 < n → ∃ c r, TL.numL n = c :: r ∧ 49 ≤ c := by
  intro n
  induction n using Nat.strongRecOn with
  | _ n ih =>
    intro hn
    by_cases h : n < 10
    · exact ⟨48 + n, [], TL.numL_lt h, by omega⟩
    · obtain ⟨c, r, e, hc⟩ := ih (n / 10) (by omega) (by omega)
      exact ⟨c, r ++ [48 + n % 10], by rw [TL.numL_step (by omega), e]; rfl, hc⟩
theorem canon_num (n : Nat) : canon (Str.ofString (toString (n : Int))) = true := by
  have e := TL.tl_num n
  unfold canon
  have e1 : ¬ (Str.ofString (toString (n : Int)) = ("" : Str)) := by
    intro z
    have := congrArg TL.tl z
    rw [e] at this
    exact TL.numL_ne n (this.trans empL)
  have e2 : (Str.ofString (toString (n : Int))).cps.toList.all dig = true := by
    rw [show (Str.ofString (toString (n : Int))).cps.toList = TL.numL n from e]
    exact List.all_eq_true.mpr fun c hc => (dig_iff c).mpr (TL.numL_digits n c hc)
  rw [decide_eq_false e1, e2]
  simp only [Bool.not_false, Bool.true_and, Bool.or_eq_true, decide_eq_true_eq, Bool.not_eq_true']
  by_cases h0 : n = 0
  · left
    subst h0
    decide +kernel
  · right
    obtain ⟨c, r, e3, hc⟩ := numL_head n (by omega)
    unfold hd0
    rw [show (Str.ofString (toString (n : Int))).cps.toList = TL.numL n from e, e3]
    simp
    omega
theorem val_num (n : Nat) : val (Str.ofString (toString (n : Int))) = n := by
  unfold val
  rw [show (Str.ofString (toString (n : Int))).cps.toList = TL.numL n from TL.tl_num n, TL.numL_val]
/-- the text of an int -/
def tx (i : Int) : Str := Str.ofString (toString i)
theorem canon_tx {i : Int} (h : 0 ≤ i) : canon (tx i) = true := by
  have e : i = ((i.toNat : Nat) : Int) := by omega
  unfold tx
  rw [e]
  exact canon_num _
theorem val_tx {i : Int} (h : 0 ≤ i) : val (tx i) = i := by
  have e : i = ((i.toNat : Nat) : Int) := by omega
  unfold tx
  rw [e]
  exact val_num _
theorem tx_val {z : Str} (h : canon z = true) : tx (val z) = z := canon_str h
theorem fold_lt : ∀ (cs : List Nat) (acc : Nat), NumText.AllDigits cs → cs.foldl (fun acc c => acc * 10 + (c - 48)) acc < (acc + 1) * 10 ^ cs.length
  | [], acc, _ => by simp
  | c :: r, acc, h => by
    have hc := h c (by simp)
    have ih := fold_lt r (acc * 10 + (c - 48)) fun x hx => h x (by simp [hx])
    rw [List.foldl_cons, List.length_cons, Nat.pow_succ]
    refine Nat.lt_of_lt_of_le ih ?_
    have e : (acc + 1) * (10 ^ r.length * 10) = ((acc + 1) * 10) * 10 ^ r.length := by
      rw [Nat.mul_comm (10 ^ r.length) 10, Nat.mul_assoc]
    rw [e]
    exact Nat.mul_le_mul_right _ (by omega)
theorem val_lt {z : Str} (h : canon z = true) {n : Nat} (hl : z.length ≤ n) : (val z).natAbs < 10 ^ n := by
  have q := fold_lt z.cps.toList 0 (canon_parts h).1
  have e : z.cps.toList.length = z.length := by simp [Str.length]
  rw [e, Nat.zero_add, Nat.one_mul] at q
  unfold val
  have : (NumText.digitsVal z.cps.toList) < 10 ^ z.length := q
  exact Nat.lt_of_lt_of_le (by simpa using this) (Nat.pow_le_pow_right (by decide) hl)
theorem tx_len {i : Int} (h0 : 0 ≤ i) (h : i.natAbs < 10 ^ 130) : (tx i).length ≤ 130 := by
  have e : i = ((i.toNat : Nat) : Int) := by omega
  unfold tx
  rw [e, TL.len_tl, TL.tl_num]
  exact TL.numL_len (by decide) (by omega)
theorem tx_free {i : Int} (h : 0 ≤ i) : 46 ∉ TL.tl (tx i) := by
  have e : i = ((i.toNat : Nat) : Int) := by omega
  unfold tx
  rw [e, TL.tl_num]
  exact TL.numL_free (.inl (by decide))

def pB (z : Str) : Str := (Txt.partition z DOT).1
def pS (z : Str) : Str := (Txt.partition z DOT).2.1
def pA (z : Str) : Str := (Txt.partition z DOT).2.2
/-- what a text is read as -/
def readW (z : Str) : Option Wn :=
  if pS z = "" ∨ canon (pB z) = false then none
  else if pA z = "" then some (val (pB z), none)
  else if canon (pA z) = false ∨ val (pA z) < val (pB z) then none
  else some (val (pB z), some (val (pA z)))
def hT : Option Int → Str
  | none => ""
  | some x => tx x
def fmtW (w : Wn) : Str := tx w.1 ++ DOT ++ hT w.2
theorem app_nil (z : Str) : z ++ ("" : Str) = z := TL.ext_tl (by rw [TL.tl_append, show TL.tl ("" : Str) = [] from empL, List.append_nil])
theorem nil_app (z : Str) : (Str.empty : Str) ++ z = z := TL.ext_tl (by rw [TL.tl_append]; rfl)
theorem tx_ne {i : Int} (h : 0 ≤ i) : tx i ≠ "" := by
  intro e
  have c := (canon_parts (canon_tx h)).2.1
  rw [e] at c
  exact c empL
theorem part_fmt {w : Wn} (h0 : 0 ≤ w.1) : Txt.partition (fmtW w) DOT = (tx w.1, DOT, hT w.2) :=
  TL.partition_app (s := 46) (S := [46]) dotL (tx_free h0)
theorem dot_ne : ¬ (DOT = ("" : Str)) := by decide +kernel
theorem read_fmt {w : Wn} (h0 : 0 ≤ w.1) (h1 : ∀ x, w.2 = some x → w.1 ≤ x) : readW (fmtW w) = some w := by
  unfold readW pS pB pA
  rw [part_fmt h0]
  simp only [canon_tx h0, dot_ne, false_or, Bool.true_eq_false, if_false, val_tx h0]
  obtain ⟨l, o⟩ := w
  cases o with
  | none => simp [hT]
  | some x =>
    have hx : 0 ≤ x := Int.le_trans h0 (h1 x rfl)
    have e1 : ¬ (tx x = "") := tx_ne hx
    have e2 : ¬ x < l := by have : l ≤ x := h1 x rfl; omega
    show (if tx x = "" then _ else if canon (tx x) = false ∨ val (tx x) < l then none else some (l, some (val (tx x)))) = _
    rw [if_neg e1, canon_tx hx, val_tx hx]
    simp [e2]
/-- the text is cut at the first two dots -/
theorem part_cases (z : Str) : (Txt.find z DOT = -1 ∧ pS z = "" ∧ pB z = z) ∨
    ∃ i : Nat, Txt.find z DOT = (i : Int) ∧ pS z = DOT ∧ pB z = cutS z none (some (i : Int)) ∧ pA z = cutS z (some ((i : Int) + 2)) none ∧ z = pB z ++ DOT ++ pA z := by
  rcases PyProof.Rows.partition_whole z DOT with ⟨e, hn⟩ | ⟨i, e, hi, hn⟩
  · left
    rcases PyProof.Rows.find_whole z DOT with ⟨f, _⟩ | ⟨j, _, hj, _⟩
    · exact ⟨f, by unfold pS; rw [e]; rfl, by unfold pB; rw [e]⟩
    · exact absurd hj (hn j)
  · right
    rcases PyProof.Rows.find_whole z DOT with ⟨_, hf⟩ | ⟨j, f, hj, hjn⟩
    · exact absurd hi (hf i)
    · have ij : i = j := by
        by_cases h1 : i < j
        · exact absurd hi (hjn i h1)
        · by_cases h2 : j < i
          · exact absurd hj (hn j h2)
          · omega
      subst ij
      have hb : i + 2 ≤ z.length := by have := hi.1; rw [dotLen] at this; exact this
      have lz := TL.len_tl z
      refine ⟨i, f, by unfold pS; rw [e], ?_, ?_, ?_⟩
      · unfold pB
        rw [e]
        apply TL.ext_tl
        rw [TL.tl_strSub]
        show _ = (List.toArray _).toList
        rw [HT.sIx_none, HT.sIx_nat]
        simp only [List.drop_zero, Nat.sub_zero]
        rw [show min i z.length = i by omega]
      · unfold pA
        rw [e, dotLen]
        apply TL.ext_tl
        rw [TL.tl_strSub_end]
        show _ = (List.toArray _).toList
        rw [HT.sIx_none, show ((i : Int) + 2) = ((i + 2 : Nat) : Int) by omega, HT.sIx_nat, show min (i + 2) z.length = i + 2 by omega]
        rw [List.take_of_length_le (by rw [List.length_drop, lz]; exact Nat.le_refl _)]
      · have q := StrLaws.sub_cat z DOT (a := 0) (Nat.zero_le i) hi
        unfold pB pA
        rw [e]
        show z = Builtin.Str.strSub z 0 i ++ DOT ++ Builtin.Str.strSub z (i + DOT.length) z.length
        rw [q]
        apply TL.ext_tl
        rw [TL.tl_strSub_end]
        rfl
theorem fmt_read {z : Str} {w : Wn} (h : readW z = some w) : fmtW w = z ∧ 0 ≤ w.1 ∧ ∀ x, w.2 = some x → w.1 ≤ x := by
  unfold readW at h
  by_cases c1 : pS z = "" ∨ canon (pB z) = false
  · rw [if_pos c1] at h
    cases h
  · rw [if_neg c1] at h
    have c2 : canon (pB z) = true := by
      cases q : canon (pB z) with
      | true => rfl
      | false => exact absurd (.inr q) c1
    rcases part_cases z with ⟨_, e, _⟩ | ⟨i, _, _, _, _, ez⟩
    · exact absurd (.inl e) c1
    · by_cases c3 : pA z = ""
      · rw [if_pos c3] at h
        cases h
        refine ⟨?_, val_nn _, fun x e => by cases e⟩
        unfold fmtW
        show tx (val (pB z)) ++ DOT ++ "" = z
        rw [tx_val c2]
        rw [c3] at ez
        exact ez.symm
      · rw [if_neg c3] at h
        by_cases c4 : canon (pA z) = false ∨ val (pA z) < val (pB z)
        · rw [if_pos c4] at h
          cases h
        · rw [if_neg c4] at h
          cases h
          have c5 : canon (pA z) = true := by
            cases q : canon (pA z) with
            | true => rfl
            | false => exact absurd (.inl q) c4
          refine ⟨?_, val_nn _, fun x e => ?_⟩
          · unfold fmtW
            show tx (val (pB z)) ++ DOT ++ tx (val (pA z)) = z
            rw [tx_val c2, tx_val c5]
            exact ez.symm
          · cases e
            show val (pB z) ≤ val (pA z)
            have : ¬ val (pA z) < val (pB z) := fun q => c4 (.inr q)
            omega
end N4
/-! Data that can be shown, and whose shown text can be shown again; data off the place of the drawn numbers. -/
namespace G
open PySem PySem.Spec PyProof.Rows L2 LamX
theorem hide_new {r p : Addr} {J : Hp} {o : HO} (h : J p = none) : Same (hide r J) (hide r (upd J p o)) := by
  intro b u e
  unfold hide at e ⊢
  split
  · rename_i z
    rw [if_pos z] at e
    cases e
  · rename_i z
    rw [if_neg z] at e
    rw [upd_ne (ne_of_none e h)]
    exact e
theorem hide_ext {r : Addr} {J J' : Hp} (h : Ext r J J') : Same (hide r J) (hide r J') := by
  intro b u e
  unfold hide at e ⊢
  split
  · rename_i z
    rw [if_pos z] at e
    cases e
  · rename_i z
    rw [if_neg z] at e
    exact h b u z e
theorem hide_extN {r : Addr} {J J' : Hp} (h : ExtN J J') : ExtN (hide r J) (hide r J') := by
  intro b u e m
  unfold hide at e ⊢
  split
  · rename_i z
    rw [if_pos z] at e
    cases e
  · rename_i z
    rw [if_neg z] at e
    exact h b u e m
theorem hide_to {r : Addr} {J J' : Hp} (h : Same J J') : Same (hide r J) (hide r J') := hide_ext (Ext.of h)
/-- a new object off r -/
theorem stp {r p : Addr} {J : Hp} {o : HO} (R : Rng J r) (h : J p = none) : ∃ J' : Hp, upd J p o = J' ∧
    Same J J' ∧ Same (hide r J) (hide r J') ∧ Rng J' r ∧ J' p = some o ∧ hide r J' p = some o :=
  ⟨_, rfl, new_same h, hide_new h, R.new h, upd_same, hide_get (R.free h).symm upd_same⟩

def txOk (z : Str) : Prop := ∀ c ∈ z.cps.toList, c < 16 ^ 8
theorem txOk.app {a b : Str} (h1 : txOk a) (h2 : txOk b) : txOk (a ++ b) := by
  intro c hc
  have e : (a ++ b).cps.toList = a.cps.toList ++ b.cps.toList := TL.tl_append a b
  rw [e] at hc
  rcases List.mem_append.mp hc with h | h
  · exact h1 c h
  · exact h2 c h
def txB (z : Str) : Bool := z.cps.toList.all fun c => decide (c < 4294967296)
theorem txOk_by {z : Str} (h : txB z = true) : txOk z := by
  intro c hc
  have := List.all_eq_true.mp h c hc
  simpa using this
theorem from_ok : ∀ (ts : List Str) (k : Nat) (acc : Str), txOk acc → (∀ t ∈ ts, txOk t) → txOk (textFrom k acc ts)
  | [], _, _, h, _ => h
  | t :: r, k, acc, h, a => by
    refine from_ok r (k + 1) _ ((h.app ?_).app (a t (by simp))) fun x hx => a x (by simp [hx])
    split
    · exact txOk_by (by decide +kernel)
    · exact txOk_by (by decide +kernel)
theorem join_ok {s : Str} (hs : txOk s) : ∀ ts : List Str, (∀ t ∈ ts, txOk t) → txOk (Str.join s ts)
  | [], _ => fun c hc => absurd (show c ∈ ([] : List Nat) from hc) (by simp)
  | [x], a => a x (by simp)
  | x :: y :: r, a => ((a x (by simp)).app hs).app (join_ok hs (y :: r) fun t ht => a t (by simp at ht ⊢; exact .inr ht))
theorem listText_ok {ts : List Str} (a : ∀ t ∈ ts, txOk t) : txOk (listText ts) :=
  (from_ok ts 0 _ (txOk_by (by decide +kernel)) a).app (txOk_by (by decide +kernel))
theorem tupleText_ok {ts : List Str} (a : ∀ t ∈ ts, txOk t) : txOk (tupleText ts) := by
  unfold tupleText
  refine ((txOk_by (by decide +kernel)).app (join_ok (txOk_by (by decide +kernel)) ts a)).app ?_
  split
  · exact txOk_by (by decide +kernel)
  · exact txOk_by (by decide +kernel)
/-- d can be shown, its depth, its length -/
def Ok2 (n k : Nat) (d : PyData) : Prop := d.showable = true ∧ d.depth ≤ k ∧ d.shown.length ≤ n
def Ok3 (n k : Nat) (d : PyData) : Prop := Ok2 n k d ∧ txOk d.shown
theorem Ok2.mono {n k n' k' : Nat} {d : PyData} (h : Ok2 n k d) (hn : n ≤ n') (hk : k ≤ k') : Ok2 n' k' d :=
  ⟨h.1, Nat.le_trans h.2.1 hk, Nat.le_trans h.2.2 hn⟩
theorem Ok3.mono {n k n' k' : Nat} {d : PyData} (h : Ok3 n k d) (hn : n ≤ n') (hk : k ≤ k') : Ok3 n' k' d := ⟨h.1.mono hn hk, h.2⟩
def ok3B (n k : Nat) (d : PyData) : Bool := d.showable && decide (d.depth ≤ k) && decide (d.shown.length ≤ n) && txB d.shown
theorem ok3_by {n k : Nat} {d : PyData} (h : ok3B n k d = true) : Ok3 n k d := by
  simp only [ok3B, Bool.and_eq_true, decide_eq_true_eq] at h
  exact ⟨⟨h.1.1.1, h.1.1.2, h.1.2⟩, txOk_by h.2⟩
theorem all_show : ∀ {ds : List PyData}, (∀ d ∈ ds, d.showable = true) → PyData.showableAll ds = true
  | [], _ => rfl
  | d :: r, a => by
    rw [PyData.showableAll, a d (by simp), all_show fun x hx => a x (by simp [hx])]
    rfl
theorem all_depth {k : Nat} : ∀ {ds : List PyData}, (∀ d ∈ ds, d.depth ≤ k) → PyData.depthAll ds ≤ k
  | [], _ => Nat.zero_le _
  | d :: r, a => by
    rw [PyData.depthAll]
    exact Nat.max_le.mpr ⟨a d (by simp), all_depth fun x hx => a x (by simp [hx])⟩
theorem all_sum {n : Nat} : ∀ {ds : List PyData}, (∀ d ∈ ds, d.shown.length ≤ n) → ((PyData.shownAll ds).map (·.length)).sum ≤ ds.length * n
  | [], _ => by simp [PyData.shownAll]
  | d :: r, a => by
    have h1 := a d (by simp)
    have h2 := all_sum (ds := r) fun x hx => a x (by simp [hx])
    rw [PyData.shownAll, List.map_cons, List.sum_cons, List.length_cons, Nat.add_mul]
    omega
theorem all_mem : ∀ {ds : List PyData} {t : Str}, t ∈ PyData.shownAll ds → ∃ d ∈ ds, t = d.shown
  | d :: r, t, h => by
    rw [PyData.shownAll] at h
    rcases List.mem_cons.mp h with e | e
    · exact ⟨d, by simp, e⟩
    · obtain ⟨x, hx, ex⟩ := all_mem e
      exact ⟨x, by simp [hx], ex⟩
theorem ok2_list {n k : Nat} {ds : List PyData} (a : ∀ d ∈ ds, Ok2 n k d) : Ok2 (ds.length * n + 2 * ds.length + 3) (k + 1) (.list ds) := by
  have s := all_sum fun d hd => (a d hd).2.2
  have l := PyData.shownAll_length ds
  refine ⟨all_show fun d hd => (a d hd).1, Nat.succ_le_succ (all_depth fun d hd => (a d hd).2.1), ?_⟩
  have h := listText_len_le (PyData.shownAll ds)
  show (listText (PyData.shownAll ds)).length ≤ _
  omega
theorem ok2_tup {n k : Nat} {ds : List PyData} (a : ∀ d ∈ ds, Ok2 n k d) : Ok2 (ds.length * n + 2 * ds.length + 3) (k + 1) (.tuple ds) := by
  have s := all_sum fun d hd => (a d hd).2.2
  have l := PyData.shownAll_length ds
  refine ⟨all_show fun d hd => (a d hd).1, Nat.succ_le_succ (all_depth fun d hd => (a d hd).2.1), ?_⟩
  have h := tupleText_len_le (PyData.shownAll ds)
  show (tupleText (PyData.shownAll ds)).length ≤ _
  omega
theorem ok3_list {n k : Nat} {ds : List PyData} (a : ∀ d ∈ ds, Ok3 n k d) : Ok3 (ds.length * n + 2 * ds.length + 3) (k + 1) (.list ds) := by
  refine ⟨ok2_list fun d hd => (a d hd).1, listText_ok fun t ht => ?_⟩
  obtain ⟨d, hd, rfl⟩ := all_mem ht
  exact (a d hd).2
theorem ok3_tup {n k : Nat} {ds : List PyData} (a : ∀ d ∈ ds, Ok3 n k d) : Ok3 (ds.length * n + 2 * ds.length + 3) (k + 1) (.tuple ds) := by
  refine ⟨ok2_tup fun d hd => (a d hd).1, tupleText_ok fun t ht => ?_⟩
  obtain ⟨d, hd, rfl⟩ := all_mem ht
  exact (a d hd).2
theorem ok2_str {n : Nat} {z : Str} (h : txOk z) (hl : z.length ≤ n) : Ok2 (10 * n + 2) 0 (.str z) := by
  refine ⟨rfl, Nat.le_refl _, ?_⟩
  have e := StrLaws.reprText_len z h
  show (reprText z).length ≤ _
  omega
theorem ok3_int {i : Int} {n : Nat} (h0 : 0 ≤ i) (h : i.natAbs < 10 ^ n) (n0 : 0 < n) (n1 : n ≤ 130) : Ok3 n 0 (.int i) := by
  have lg : i.natAbs.log2 < 450 := PySem.Flt.log2_lt_of (by decide) (Nat.lt_of_lt_of_le h (Nat.le_trans (Nat.pow_le_pow_right (by decide) n1) (by decide +kernel)))
  refine ⟨⟨?_, Nat.le_refl _, ?_⟩, ?_⟩
  · simp only [PyData.showable, decide_eq_true_eq]
    omega
  · show (N4.tx i).length ≤ n
    have e : i = ((i.toNat : Nat) : Int) := by omega
    unfold N4.tx
    rw [e, TL.len_tl, TL.tl_num]
    exact TL.numL_len n0 (by omega)
  · show txOk (N4.tx i)
    intro c hc
    have := (N4.canon_parts (N4.canon_tx h0)).1 c hc
    omega
section
variable {X : Cx}
def Shw (d : PyData) : Prop := d.showable = true ∧ d.depth ≤ 60 ∧ d.shown.length ≤ sizeLine
theorem Ok2.shw {n k : Nat} {d : PyData} (h : Ok2 n k d) (hn : n ≤ 12000000) (hk : k ≤ 60) : Shw d :=
  ⟨h.1, Nat.le_trans h.2.1 hk, Nat.le_trans h.2.2 (Nat.le_trans hn (by decide))⟩
def rRepS : List V → Hp → VK → Prop := fun xs H Q =>
  ∃ (v : V) (d : PyData), xs = [v] ∧ Da H v d ∧ Shw d ∧ Q (.str d.shown) H
theorem call_repS (gd : X.A.guards = some []) (hu : X.A.units + 64 < cLine) :
    CallR X (.builtin "repr") rRepS := by
  intro pins s σ H xs us Q I r h
  obtain ⟨v, d, rfl, hd, ⟨hs, hp, hz⟩, q⟩ := h
  obtain ⟨u, rfl, rv⟩ := vals1 r
  obtain ⟨as, R, nm⟩ := hd.reads I rv
  cases R with
  | none => exact PySem.P.repr_of_none ⟨.str _, H, I.tok _, ⟨_, rfl⟩, q⟩
  | bool b => exact PySem.P.repr_of_bool ⟨.str _, H, I.tok _, ⟨_, rfl⟩, q⟩
  | int i t =>
    have hi : i.natAbs.log2 < 1920 := by simpa [PyData.showable] using hs
    exact PySem.P.repr_of_int hi ⟨.str _, H, I.tok _, ⟨_, rfl⟩, q⟩
  | str y t => exact PySem.P.repr_of_str ⟨.str _, H, I.tok _, ⟨_, rfl⟩, q⟩ hz
  | list h1 h2 h3 h4 =>
    exact repr_of_reads' (.list h1 h2 h3 h4) hs (fun _ => nm) gd (by omega)
      (fun _ _ e => e) (fun h' u tk k => ⟨.str _, H, I.kept k, ⟨_, rfl⟩, q⟩) hz
  | tuple h1 h2 h3 h4 =>
    exact repr_of_reads' (.tuple h1 h2 h3 h4) hs (fun _ => nm) gd (by omega)
      (fun _ _ e => e) (fun h' u tk k => ⟨.str _, H, I.kept k, ⟨_, rfl⟩, q⟩) hz
  | dict h1 h2 h3 h4 h5 =>
    exact repr_of_reads' (.dict h1 h2 h3 h4 h5) hs (fun _ => nm) gd (by omega)
      (fun _ _ e => e) (fun h' u tk k => ⟨.str _, H, I.kept k, ⟨_, rfl⟩, q⟩) hz
end
end G
set_option maxHeartbeats 2000000
/-! A lambda called in a try by the def that got it: what it raises is taken at the slots of that very moment. -/
namespace G
open PySem PySem.Spec PyProof.Rows L2 LamX
section
variable {X : Cx} {pins : List (Addr × Obj)} {σ : L2.St} {H : Hp} {s : Shared}
theorem pe_actS {CXg : CXT} {Eg : XK} {Ng : List Str} {qg : Str} {sg : Scope} {g f c' : Addr} {cdg pm ctv : Value}
    {params : Arguments} {body : Expr} {scope : Scope} {k i : Nat} {a : Str} {pn : List (Addr × Obj)}
    {xe : Value → Shared → Prop} {W : WX} {tb : XK → TE} {p1 p2 : Pos}
    (I : Inv X pins σ H s) (L : LamS X.env.scope scope)
    (hf : s.heap.get? f = some (PySem.W.kla_obj "<lambda>" (X.env.qual ++ "<lambda>") params body scope
      (cloFrom X.env.cells scope.names []) pm c' ctv))
    (hn : H f = none) (hfr : f ∉ frs X.stack)
    (hbind : bindArgs (PySem.W.kla_fn "<lambda>" (X.env.qual ++ "<lambda>") params body scope
      (cloFrom X.env.cells scope.names []) pm (.ref c') ctv) ⟨[], []⟩ = pure [])
    (tk : Takes ((cxOf CXg X.prog X.w X.K X.mg X.base Ng qg sg g cdg X.A X.stack s H Eg).tr pn xe) W)
    (hr : Room (k + 1) (X.A.deeper (envOfC qg sg s.heap.objs.size g cdg)))
    (hbody : ∀ (E : XK) (A : Around) (ou : List Env) (s : Shared) (H : Hp), A.guards = X.A.guards →
      Room k (A.deeper (lamEnv X scope s.heap.objs.size f c')) → PE (lamCx X A ou s H E scope f c') body (tb E))
    (hN : Ng[i]? = some a) (hv : Vis sg a) (hd : (a == ("__debug__" : Str)) = false)
    (hcd : (a == ("__classdict__" : Str)) = false) :
    PE ((cxOf CXg X.prog X.w X.K X.mg X.base Ng qg sg g cdg X.A X.stack s H Eg).tr pn xe)
      (.Call (.Name a p1) [] [] p2)
      (fun σz Hz Q => σz[i]? = some (some (.ref f)) ∧ Hz c' = some (CodeO c' (X.env.qual ++ "<lambda>")) ∧
        tb (WE W σz) σ Hz Q) := by
  refine ⟨fun pz sz σz Hz Q Iz h => ?_⟩
  obtain ⟨h0, hc, ht⟩ := h
  have rd := (pe_var (pos := p1) (i := i) hN hv hd hcd).run pz sz σz Hz
    (fun v J => v = .ref f ∧ J = Hz) Iz ⟨.ref f, h0, rfl, rfl⟩
  refine wpAny_Call_Name_kw (thn rd fun u s1 ⟨v, J, I1, r1, ev, eJ⟩ => ?_)
  subst ev eJ
  obtain rfl : u = Value.ref f := r1
  have un : Un (frs X.stack) [] H J s.heap s1.heap := I1.base
  have at1 := I1.base.keep f _ hf hn hfr (fun z => nomatch (show f ∈ ([] : List Addr) from z))
  refine PySem.W.callWith_F0 ⟨_, _, _, _, at1⟩ ?_
  obtain ⟨⟨oc, vs, t, o1, o2, o3⟩, _, _⟩ := I1.hok c' _ hc
  have run : codeAny (model X.prog X.w) (X.A.deeper (envOfC qg sg s.heap.objs.size g cdg)) (.call (.ref f) ⟨[], []⟩)
      (CR (L2.CX X.prog X.w) (envOfC qg sg s.heap.objs.size g cdg :: X.stack) X.prog X.w J s1 Q (WE W σz)) s1 := by
    refine PySem.W.kla_callFunE hr.depth at1 rfl L.co L.gen rfl ⟨c', oc, vs, t, rfl, o1, o2, o3⟩ ?_
    rw [hbind]
    refine wpAny_pure (wpAny_newFunctionEnv (fun y hy => (L.own y hy).2)
      (fun y hy => absurd hy (by simp)) (fun h1 ns sb => ⟨I1.nolimit.fresh _ sb, ?_⟩) L.kind)
    show codeAny _ _ (.expr body (lamEnv X scope s1.heap.objs.size f c')) _ _
    have kp : ∀ b o, s1.heap.get? b = some o → h1.get? b = some o := by
      intro b o e
      exact sb.extBut b o (Nat.ne_of_lt (Heap.lt_size e)) (Heap.get?_push_of_some _ e)
    have J2 := lam_start2 (A := X.A.deeper (envOfC qg sg s.heap.objs.size g cdg)) (E := WE W σz) (f := f) (c' := c')
      (tk := s1.toks + ([] : List (Str × Value)).length) I L I1.env0 hr.hd un ns kp
    refine PySem.W.kla_codeExpr (wpAny_mono ((hbody (WE W σz) (X.A.deeper (envOfC qg sg s.heap.objs.size g cdg)) _ s1 J rfl (hr.deeper _)).run [] _ _ J Q J2 ht)
      (fun v s' hq => ?_) fun e s' hq => hq)
    obtain ⟨w', H', J', rv, q⟩ := hq
    exact ⟨w', H', J'.os, J'.bare, J'.base, J'.hok, rv, q⟩
  refine wpAny_call (codeAny_mono run fun r s' hq => ?_)
  cases r with
  | error e => exact passAt tk σz pz J s1 e s' I1 hq
  | ok fl =>
    cases fl with
    | ret u => exact I1.after hq
    | next => exact hq.elim
    | brk => exact hq.elim
    | cont => exact hq.elim
end
/-- the def that calls what it got, told of the slots at that moment -/
def GivesS (X : Cx) (Ng : List Str) (x : Str) (sg : Scope) (g : Addr) (cdg : Value) (bg : List Stmt) (a : Str) (q : Str)
    (TT : (XK → Hp → VK → Prop) → Hp → VK → Prop) : Prop :=
  ∀ (f c' : Addr) (s : Shared) (H : Hp) (Q : VK) (tl : XK → Hp → VK → Prop),
    (∀ (W : WX) (pn : List (Addr × Obj)) (xe : Value → Shared → Prop) (p1 p2 : Pos),
      Takes ((cxOf CX0 X.prog X.w X.K X.mg X.base Ng x sg g cdg X.A X.stack s H E0).tr pn xe) W →
      PE ((cxOf CX0 X.prog X.w X.K X.mg X.base Ng x sg g cdg X.A X.stack s H E0).tr pn xe)
        (.Call (.Name a p1) [] [] p2)
        (fun σz Hz Q => σz[0]? = some (some (.ref f)) ∧ Hz c' = some (CodeO c' q) ∧ tl (WE W σz) Hz Q)) →
    H c' = some (CodeO c' q) → TT tl H Q →
    ∃ t, PSs (cxOf CX0 X.prog X.w X.K X.mg X.base Ng x sg g cdg X.A X.stack s H E0).nox bg t ∧
      t { nx := fun _ H' => Q .non H', rt := Q } (L2.start Ng [.ref f]) H
section
variable {X : Cx}
/-- x(lambda: body) -/
theorem pe_lamS {T : List (Addr × Str)} {TT : (XK → Hp → VK → Prop) → Hp → VK → Prop} {x a : Str} {g c P : Addr} {k : Nat}
    {pg : Arguments} {bg : List Stmt} {sg : Scope} {dV kV doc pm cdv ct oc : Value} {an od : Option Addr}
    {osl : Array (Option Value)} {Ng : List Str} {params : Arguments} {body : Expr} {scope : Scope} {t : XK → TE}
    {p lpos pos : Pos} (hg : Gl X x) (hm : X.mg x = some (.ref g)) (hk : PySem.W.keepIn X.K (.ref g) = true)
    (lk : X.K.lookup g = some ⟨oc, od, .func (PySem.W.fnOf x x pg bg sg dV kV doc pm an cdv ct), osl⟩)
    (hcg : PySem.W.codeIn X.K cdv x = true)
    (hb : L2.Binds X.K (PySem.W.fnOf x x pg bg sg dV kV doc pm an cdv ct) [a] []) (Sg : FnScope Ng [a] sg)
    (hNg : Ng[0]? = some a) (hva : Vis sg a)
    (hG : GivesS X Ng x sg g cdv bg a (X.env.qual ++ "<lambda>") TT)
    (TB : TabB X.base X.mg c P) (hcode : X.env.code = .ref c) (hmT : (P, X.env.qual ++ "<lambda>") ∈ T)
    (hu : ∀ p ∈ T, p.1 = P → p.2 = X.env.qual ++ "<lambda>") (hr : Room (k + 2) X.A)
    (L : LamS X.env.scope scope) (hdef : defaultsOf params X.env = ([], []))
    (hbind : ∀ (q : Str) (cl : List (Str × Addr)) (pm cv ctv : Value),
      bindArgs (PySem.W.kla_fn "<lambda>" q params body scope cl pm cv ctv) ⟨[], []⟩ = pure [])
    (hbody : ∀ (A : Around) (ou : List Env) (s : Shared) (H : Hp) (E : XK) (f c' : Addr), A.guards = X.A.guards →
      Room k (A.deeper (lamEnv X scope s.heap.objs.size f c')) → PE (lamCx X A ou s H E scope f c') body (t E))
    (n1 : (x == ("__debug__" : Str)) = false := by decide) (n2 : (a == ("__debug__" : Str)) = false := by decide)
    (n3 : (a == ("__classdict__" : Str)) = false := by decide) :
    PE X (.Call (.Name x p) [.Lambda params body scope lpos] [] pos) (tLam T TT t) := by
  refine ⟨fun pins s σ H Q I h => ?_⟩
  obtain ⟨hT, h⟩ := h
  refine wpAny_Call_Name_kw (ld_glob I hg hm ?_ n1)
  refine PySem.W.callWith_K (h₀ := X.base) I.ok.mod.kin hk ?_ (by rfl) (by rfl)
  show wpAny _ _ (spliced ((false, eval (.Lambda params body scope lpos) X.env) ::
    backTo pos (starEach [] X.env))) _ _ s
  refine Calls.spliced_cons (lam_make2 I TB hcode hmT hu hT hdef (L.has I.ok) ?_)
  intro f c' pm' ctv H1 s' I1 eN T1 hf hfn hfr hco
  refine Calls.spliced_nil ⟨I1.kIn, ?_⟩
  have run : codeAny (model X.prog X.w) X.A (.call (.ref g) ⟨[.ref f], []⟩)
      (CR CX0 X.stack X.prog X.w H1 s' Q E0) s' := by
    refine run_ofS (N := Ng) (ps := [a]) (us := [.ref f]) (vs := [.ref f]) lk hcg Sg hr I1.env0
      (hb s' [.ref f] I1.kIn rfl) (.cons rfl .nil) rfl fun hr' => ?_
    obtain ⟨t', ht', hq'⟩ := hG f c' s' H1 Q (fun E H' Q' => t E σ H' Q') (fun W pn xe p1 p2 tk =>
      pe_actS (i := 0) I1 L hf hfn hfr (hbind _ _ _ _ _) tk hr'
        (fun E A ou s H gA hr2 => hbody A ou s H E f c' gA hr2) hNg hva n2 n3) hco (h H1 eN T1)
    exact ⟨t', ht'.nox, hq'⟩
  refine wpAny_call (codeAny_mono run fun r s2 hq => ?_)
  cases r with
  | error e => exact (show False from hq).elim
  | ok fl =>
    cases fl with
    | ret u => exact I1.after hq
    | next => exact hq.elim
    | brk => exact hq.elim
    | cont => exact hq.elim
end
end G
/-! Statements in a row, joined by an own invariant. -/
namespace G
open PySem PySem.Spec PyProof.Rows L2
/-- st, then the rest: I is what holds in between -/
def tCut (t u : TS) : TS := fun D σ H => ∃ I : L2.St → Hp → Prop, (∀ σ J, I σ J → u D σ J) ∧ t { D with nx := I } σ H
theorem pss_cut {X : Cx} {st : Stmt} {rest : List Stmt} {t u : TS} (h1 : PS X st t) (h2 : PSs X rest u) :
    PSs X (st :: rest) (tCut t u) := by
  refine ⟨fun pins s σ H D J h => ?_⟩
  obtain ⟨I, go, h⟩ := h
  refine wpAny_execs_cons (thn (h1.run pins s σ H { D with nx := I } J h) fun fl s1 q => ?_)
  cases fl with
  | ret v => exact q
  | brk => exact q
  | cont => exact q
  | next =>
    obtain ⟨σ2, H2, J2, i2⟩ := q
    exact h2.run pins s1 σ2 H2 D J2 (go σ2 H2 i2)
end G
set_option maxHeartbeats 2000000
/-! try with several except clauses, each with a name or without one. -/
namespace G
open PySem PySem.Spec PyProof.Rows L2
abbrev Suite := Addr → Value → Option Addr → TS
/-- a clause's suite: o is the slot of its name -/
def hGo (o : Option Nat) (ts : Suite) (a : Addr) (cls : Value) (d : Option Addr) (D : Ends) (σ : L2.St) (H : Hp) : Prop :=
  match o with
  | none => ts a cls d D σ H
  | some i => ts a cls d (⟨fun s J => D.nx (s.set i none) J, D.rt, fun s J => D.bk (s.set i none) J, fun s J => D.ct (s.set i none) J⟩ : Ends) (σ.set i (some (.ref a))) H
/-- what the clauses wish of an error of the body, one after the other -/
def wHs (K : PySem.W.Frag) (Wo : WX) (D : Ends) : List (Value × Option Nat × Suite) → WX
  | [] => Wo
  | (c, o, ts) :: r => fun cls d σ H => ∃ b, PySem.W.exmOne K cls c = some b ∧
      (b = true → ∀ a, H a = none → hGo o ts a cls d D σ H) ∧ (b = false → wHs K Wo D r cls d σ H)
inductive HsOk (X : Cx) : List ExceptHandler → List (Value × Option Nat × Suite) → Prop
  | nil : HsOk X [] []
  | plain {x : Str} {c : Value} {ts : Suite} {b0 : Stmt} {su : List Stmt} {np p' : Pos} {hs : List ExceptHandler}
      {l : List (Value × Option Nat × Suite)} (hc : Names X x c)
      (hsu : ∀ (a : Addr) (oe : Obj) (cls : Value) (d : Option Addr) (pn : List (Addr × Obj)), Zc cls d oe →
        (∃ vs, oe.data = .fields vs) → PSs (X.suite a ((a, oe) :: pn)) (b0 :: su) (ts a cls d)) (r : HsOk X hs l) :
      HsOk X (.ExceptHandler (some (.Name x np)) none (b0 :: su) p' :: hs) ((c, none, ts) :: l)
  | named {x n : Str} {c : Value} {i : Nat} {ts : Suite} {b0 : Stmt} {su : List Stmt} {np p' : Pos} {hs : List ExceptHandler}
      {l : List (Value × Option Nat × Suite)} (hc : Names X x c) (hN : X.N.Nodup) (hi : X.N[i]? = some n)
      (hl : X.env.kindOf n = some .local)
      (hsu : ∀ (a : Addr) (oe : Obj) (cls : Value) (d : Option Addr) (pn : List (Addr × Obj)), Zc cls d oe →
        (∃ vs, oe.data = .fields vs) → PSs (X.suite a ((a, oe) :: pn)) (b0 :: su) (ts a cls d)) (r : HsOk X hs l) :
      HsOk X (.ExceptHandler (some (.Name x np)) (some n) (b0 :: su) p' :: hs) ((c, some i, ts) :: l)
section
variable {X : Cx} {body : List Stmt} {h0 : ExceptHandler} {hs : List ExceptHandler} {l : List (Value × Option Nat × Suite)}
  {pos : Pos} {tb : WX → TS} {Wo : WX}
theorem ps_try_hs (hk : X.stack = X.env :: X.outer) (hf : X.env.frame = some X.env.locals) (tk : Takes X Wo)
    (hb : ∀ (W : WX) (pn : List (Addr × Obj)) (xe : Value → Shared → Prop), Takes (X.tr pn xe) W →
      PassesOwn (model X.prog X.w) X.A X.env xe → PSs (X.tr pn xe) body (tb W)) (hh : HsOk X (h0 :: hs) l) :
    PS X (.Try body (h0 :: hs) [] [] pos) (fun D σ H => tb (wHs X.K Wo D l) D σ H) := by
  refine ⟨fun pins s σ H D I h => ?_⟩
  have ok := I.ok
  have frm : X.A.frames = some (X.env :: X.outer) := by
    rw [ok.frames, hk]
  refine wpAny_Try_except ?_
  have bodyRun := (hb (wHs X.K Wo D l) (X.pn ++ pins) (fun e s1 => wpAny (model X.prog X.w) X.A (noteFrame e X.env)
    (fun _ s2 => wpAny (model X.prog X.w) X.A (setFlight e none) (fun _ s3 => wpAny (model X.prog X.w) X.A
      (handleBy e X.env (h0 :: hs)) (SP X pins D) X.xe s3) X.xe s2) X.xe s1) ?ca PassesOwn.looking).run [] s σ H D
    (I.toTry _) h
  case ca =>
    intro u sx xx
    obtain ⟨a, B, sI, ps', σ2, H2, cls, d, rfl, I2, nb, up, sky, na, os, ag, wt⟩ := xx
    have J : Inv X pins σ2 H2 sI := I2.ofTry ok
    have sk : Sky B (X.env :: X.outer) a (Zc cls d) X.env.locals sx.heap := by
      rw [← hk]
      exact sky
    show wpAny (model X.prog X.w) X.A (noteFrame (.ref a) X.env) _ _ _
    refine Sky.land Zc.steady frm hf sk fun g3 fl up3 => ?_
    have J3 : Inv X pins σ2 H2 { sx with heap := g3 } := J.landed nb fl.1 (up.trans up3) os ag
    obtain ⟨o3, vs3, at3, z3, d3⟩ := fl.there
    have nfr : a ∉ frs (X.env :: X.outer) := by
      intro hm
      obtain ⟨_, o', e', hnf⟩ := fl.2.2.1.mem hm
      rw [at3] at e'
      cases e'
      exact hnf _ d3
    have nL : a ≠ X.env.locals := by
      intro z
      refine nfr (List.mem_filterMap.mpr ⟨X.env, List.mem_cons_self, ?_⟩)
      rw [hf, z]
    have nF : a ∉ X.fs := by
      intro hm
      obtain ⟨e, he, q⟩ := List.mem_filterMap.mp hm
      exact nfr (List.mem_filterMap.mpr ⟨e, .tail _ he, q⟩)
    have S3 := J3.suite at3 d3 na nL nF
    -- the test of a clause
    have test : ∀ {x : Str} {c : Value} {np : Pos} {b : Bool} {Q : Bool → Shared → Prop} {E : Value → Shared → Prop},
        Names X x c → PySem.W.exmOne X.K cls c = some b → Q b { sx with heap := g3 } →
        wpAny (model X.prog X.w) (X.A.mark (some (.ref a))) (eval (.Name x np) X.env)
          (fun v s1 => wpAny (model X.prog X.w) (X.A.mark (some (.ref a))) (excMatches (.ref a) v) Q E s1) E { sx with heap := g3 } := by
      intro x c np b Q E hc e q
      have ty : PySem.W.Looks (model X.prog X.w) g3 (typeOf (.ref a)) cls := by
        intro A' Q' E' s' k q'
        refine wpAny_typeOf_ref (k _ _ at3) ?_
        rw [z3.1]
        exact q'
      have mt := PySem.W.exm_one (M := model X.prog X.w) J3.kIn ty e
      obtain ⟨hg, hdb, hm | ⟨hm, hv, hnn⟩⟩ := hc
      · exact ld_glob (X := X.suite a ((a, o3) :: (X.pn ++ pins))) S3 hg hm (mt.here q) hdb
      · exact ld_blt (X := X.suite a ((a, o3) :: (X.pn ++ pins))) S3 hg hm hv (mt.here q) hnn hdb
    have go : ∀ {hs' : List ExceptHandler} {l' : List (Value × Option Nat × Suite)}, HsOk X hs' l' →
        wHs X.K Wo D l' cls d σ2 H2 →
        wpAny (model X.prog X.w) X.A (handleBy (.ref a) X.env hs') (SP X pins D) X.xe { sx with heap := g3 } := by
      intro hs' l' hh'
      induction hh' with
      | nil =>
        intro w0
        obtain ⟨k1, k2, k3, oe, vs, T, oT, t0, he, hz, hd, h1, hr⟩ := id fl
        refine wpAny_handleBy_nil ?_
        unfold PySem.passOn
        refine wpAny_bind (wpAny_field he hd h1 ?_)
        rw [if_neg (by simp : ¬ ((Value.ref T == Value.none) = true))]
        have fin : wpAny (model X.prog X.w) X.A (setFlight (.ref a) X.env.frame) (fun _ s4 => wpAny (model X.prog X.w) X.A
            (throw (.ref a) : Sem Flow) (SP X pins D) X.xe s4) X.xe { sx with heap := g3 } := by
          rw [hf]
          refine HandSPX.setFlight_upZ fl fun g4 fl4 up4 => wpAny_throw (tk _ _ ?_)
          exact ⟨a, B, sI, pins, σ2, H2, cls, d, rfl, J, nb, (up.trans up3).trans up4,
            .inr (.inr (by rw [hk]; exact fl4)), na, os, ag, w0⟩
        first
          | exact wpAny_bind (wpAny_pure (wpAny_bind fin))
          | exact wpAny_bind fin
      | @plain x c ts b0 su np p' hs2 l2 hc hsu r ih =>
        intro w0
        obtain ⟨b, e, yes, no⟩ := w0
        refine wpAny_handleBy_cons (codeAny_handlers_test (test hc e ?_)) (by intro q; cases q)
        cases b with
        | false =>
          show wpAny _ X.A (handleBy (.ref a) X.env hs2) _ _ _
          exact ih (no rfl)
        | true =>
          refine codeAny_handlers_suite (HandSPX.lands_againZ fl fun g4 fl4 up4 => ?_)
          have J4 : Inv X pins σ2 H2 { sx with heap := g4 } := J.landed nb fl4.1 ((up.trans up3).trans up4) os ag
          obtain ⟨o4, vs4, at4, z4, d4⟩ := fl4.there
          have S4 := J4.suite at4 d4 na nL nF
          have y0 : ts a cls d D σ2 H2 := yes rfl a na
          refine wpAny_mono ((hsu a o4 cls d (X.pn ++ pins) z4 ⟨_, d4⟩).run [] _ _ H2 _ S4 y0)
            (fun f s6 z => ?_) (fun _ _ z => False.elim z)
          cases f with
          | ret u =>
            obtain ⟨v, σ6, H6, S6, r6, q6⟩ := z
            exact ⟨v, σ6, H6, S6.unsuite ok, r6, q6⟩
          | next =>
            obtain ⟨σ6, H6, S6, q6⟩ := z
            exact ⟨σ6, H6, S6.unsuite ok, q6⟩
          | brk =>
            obtain ⟨σ6, H6, S6, q6⟩ := z
            exact ⟨σ6, H6, S6.unsuite ok, q6⟩
          | cont =>
            obtain ⟨σ6, H6, S6, q6⟩ := z
            exact ⟨σ6, H6, S6.unsuite ok, q6⟩
      | @named x n c i ts b0 su np p' hs2 l2 hc hN hi hl hsu r ih =>
        intro w0
        obtain ⟨b, e, yes, no⟩ := w0
        refine wpAny_handleBy_cons (codeAny_handlers_test (test hc e ?_)) (by intro q; cases q)
        cases b with
        | false =>
          show wpAny _ X.A (handleBy (.ref a) X.env hs2) _ _ _
          exact ih (no rfl)
        | true =>
          refine codeAny_handlers_suite_as (HandSPX.lands_againZ fl fun g4 fl4 up4 => ?_)
          have J4 : Inv X pins σ2 H2 { sx with heap := g4 } := J.landed nb fl4.1 ((up.trans up3).trans up4) os ag
          obtain ⟨o4, vs4, at4, z4, d4⟩ := fl4.there
          have S4 := J4.suite at4 d4 na nL nF
          have y0 := yes rfl a na
          refine store_ok (X := X.suite a ((a, o4) :: (X.pn ++ pins))) (v := .ref a) S4 hN hi (.inl hl) rfl
            (fun s5 S5 => ?_) (.inr hl)
          refine wpAny_mono ((hsu a o4 cls d (X.pn ++ pins) z4 ⟨_, d4⟩).run [] s5 _ H2 _ S5 y0)
            (fun f s6 z => ?_) (fun _ _ z => False.elim z)
          have out : ∀ {σ6 : L2.St} {H6 : Hp} {Q : Shared → Prop}, Inv (X.suite a ((a, o4) :: (X.pn ++ pins))) [] σ6 H6 s6 →
              (∀ s7, Inv X pins (σ6.set i none) H6 s7 → Q s7) →
              wpAny (model X.prog X.w) X.A (do bindName X.env n .none; unbindBehindTheSuite X.env n p')
                (fun _ s7 => Q s7) X.xe s6 := by
            intro σ6 H6 Q S6 hq
            exact gone_ok (S6.unsuite ok) hN hi hl hq
          cases f with
          | ret u =>
            obtain ⟨v, σ6, H6, S6, r6, q6⟩ := z
            exact out S6 fun s7 J7 => ⟨v, _, H6, J7, r6, q6⟩
          | next =>
            obtain ⟨σ6, H6, S6, q6⟩ := z
            exact out S6 fun s7 J7 => ⟨_, H6, J7, q6⟩
          | brk =>
            obtain ⟨σ6, H6, S6, q6⟩ := z
            exact out S6 fun s7 J7 => ⟨_, H6, J7, q6⟩
          | cont =>
            obtain ⟨σ6, H6, S6, q6⟩ := z
            exact out S6 fun s7 J7 => ⟨_, H6, J7, q6⟩
    exact go hh wt
  refine wpAny_mono bodyRun (fun f s1 z => ?_) (fun e s1 he => he)
  cases f with
  | ret u =>
    obtain ⟨v, σ6, H6, J6, r6, q6⟩ := z
    exact ⟨v, σ6, H6, J6.ofTry ok, r6, q6⟩
  | next =>
    obtain ⟨σ6, H6, J6, q6⟩ := z
    exact wpAny_execs_nil ⟨σ6, H6, J6.ofTry ok, q6⟩
  | brk =>
    obtain ⟨σ6, H6, J6, q6⟩ := z
    exact ⟨σ6, H6, J6.ofTry ok, q6⟩
  | cont =>
    obtain ⟨σ6, H6, J6, q6⟩ := z
    exact ⟨σ6, H6, J6.ofTry ok, q6⟩
end
end G
set_option maxHeartbeats 4000000
namespace N6
open PySem PySem.Spec PyProof.Rows L2 G N4
def tp (i : Nat) : Stmt :=
  PySem.Challenge.pw_groupsteps_k16_wrong_windows_and_texts.main.body.getD i (.Pass ⟨0, 0, 0, 0⟩)
abbrev sIniV : Stmt := inClass (tp 2) 0
abbrev sIniW : Stmt := inClass (tp 3) 0
abbrev sIniS : Stmt := inClass (tp 4) 0
abbrev sIniT : Stmt := inClass (tp 5) 0
abbrev sIsVer : Stmt := tp 8
abbrev sReqVer : Stmt := tp 9
abbrev sVT : Stmt := tp 10
abbrev sIsWin : Stmt := tp 12
abbrev sReqWin : Stmt := tp 13
abbrev sReqWins : Stmt := tp 14
abbrev sReach : Stmt := tp 15
abbrev sCont : Stmt := tp 16
abbrev sRises : Stmt := tp 17
abbrev sFall : Stmt := tp 18
abbrev sLeast : Stmt := tp 19
abbrev sFmt : Stmt := tp 20
abbrev sParse : Stmt := tp 21
abbrev sRng : Stmt := tp 23
abbrev sDraw : Stmt := tp 24
abbrev sChoice : Stmt := tp 25
abbrev sLIC : Stmt := tp 26
abbrev sLIW : Stmt := tp 27
abbrev sOdd : Stmt := tp 28
abbrev sTold : Stmt := tp 29
abbrev sSingle : Stmt := tp 30
abbrev sTop : Stmt := tp 31
abbrev sLists : Stmt := tp 32
abbrev sNumb : Stmt := tp 33
abbrev sRead : Stmt := tp 34
abbrev sTexts : Stmt := tp 35
abbrev sLaw : Stmt := tp 36
structure Txt (mg : Str → Option Value) : Prop where
  len : mg "len" = none
  abs : mg "abs" = none
  max : mg "max" = none
  divmod : mg "divmod" = none
  isi : mg "isinstance" = none
  tuple : mg "tuple" = none
  int : mg "int" = none
  bool : mg "bool" = none
  list : mg "list" = none
  range : mg "range" = none
  repr : mg "repr" = none
  str : mg "str" = none
  all : mg "all" = none
  enumerate : mg "enumerate" = none
  zip : mg "zip" = none
  min : mg "min" = none
  dgs : ∃ t : Tok, mg "DIGITS" = some (.str DIG t)
def hV : Option Int → V
  | none => .non
  | some x => .int x
def hD : Option Int → PyData
  | none => .none
  | some x => .int x
def WinAt (H : Hp) (t : Addr) (w : Wn) : Prop := H t = some (.tup [.int w.1, hV w.2])
def wD (w : Wn) : PyData := .tuple [.int w.1, hD w.2]
theorem hDa {H : Hp} : ∀ h : Option Int, Da H (hV h) (hD h)
  | none => .non
  | some x => .int x
theorem WinAt.da {H : Hp} {t : Addr} {w : Wn} (h : WinAt H t w) : Da H (.ref t) (wD w) :=
  .tup h (.cons (.int _) (.cons (hDa _) .nil))
/-- a right window with bounds below 10 ^ 130 -/
def Wk (w : Wn) : Prop := 0 ≤ w.1 ∧ w.1.natAbs < 10 ^ 130 ∧ ∀ x, w.2 = some x → w.1 ≤ x ∧ x.natAbs < 10 ^ 130
def verB : PyData → Bool
  | .int i => decide (0 ≤ i)
  | _ => false
def isNone : PyData → Bool
  | .none => true
  | _ => false
def geB : PyData → PyData → Bool
  | .int h, .int l => decide (h ≥ l)
  | _, _ => false
def winB : PyData → Bool
  | .tuple [lo, hi] => verB lo && (isNone hi || (verB hi && geB hi lo))
  | _ => false

def isTuple : PyData → Bool
  | .tuple _ => true
  | _ => false
def isInt : PyData → Bool
  | .int _ => true
  | .bool _ => true
  | _ => false
def isBool : PyData → Bool
  | .bool _ => true
  | _ => false
def isList : PyData → Bool
  | .list _ => true
  | _ => false

def isStr : PyData → Bool
  | .str _ => true
  | _ => false
theorem kTuple {K : PySem.W.Frag} : ∀ d : PyData,
    PySem.W.kitOne K (.type (tyD d)) (.type "tuple") = some (isTuple d)
  | .none => kit_ty (a := "NoneType") (b := "tuple") (r := false) (by decide +kernel)
  | .bool _ => kit_ty (a := "bool") (b := "tuple") (r := false) (by decide +kernel)
  | .int _ => kit_ty (a := "int") (b := "tuple") (r := false) (by decide +kernel)
  | .str _ => kit_ty (a := "str") (b := "tuple") (r := false) (by decide +kernel)
  | .list _ => kit_ty (a := "list") (b := "tuple") (r := false) (by decide +kernel)
  | .tuple _ => kit_ty (a := "tuple") (b := "tuple") (r := true) (by decide +kernel)
  | .dict _ => kit_ty (a := "dict") (b := "tuple") (r := false) (by decide +kernel)
theorem kInt {K : PySem.W.Frag} : ∀ d : PyData,
    PySem.W.kitOne K (.type (tyD d)) (.type "int") = some (isInt d)
  | .none => kit_ty (a := "NoneType") (b := "int") (r := false) (by decide +kernel)
  | .bool _ => kit_ty (a := "bool") (b := "int") (r := true) (by decide +kernel)
  | .int _ => kit_ty (a := "int") (b := "int") (r := true) (by decide +kernel)
  | .str _ => kit_ty (a := "str") (b := "int") (r := false) (by decide +kernel)
  | .list _ => kit_ty (a := "list") (b := "int") (r := false) (by decide +kernel)
  | .tuple _ => kit_ty (a := "tuple") (b := "int") (r := false) (by decide +kernel)
  | .dict _ => kit_ty (a := "dict") (b := "int") (r := false) (by decide +kernel)
theorem kBool {K : PySem.W.Frag} : ∀ d : PyData,
    PySem.W.kitOne K (.type (tyD d)) (.type "bool") = some (isBool d)
  | .none => kit_ty (a := "NoneType") (b := "bool") (r := false) (by decide +kernel)
  | .bool _ => kit_ty (a := "bool") (b := "bool") (r := true) (by decide +kernel)
  | .int _ => kit_ty (a := "int") (b := "bool") (r := false) (by decide +kernel)
  | .str _ => kit_ty (a := "str") (b := "bool") (r := false) (by decide +kernel)
  | .list _ => kit_ty (a := "list") (b := "bool") (r := false) (by decide +kernel)
  | .tuple _ => kit_ty (a := "tuple") (b := "bool") (r := false) (by decide +kernel)
  | .dict _ => kit_ty (a := "dict") (b := "bool") (r := false) (by decide +kernel)
theorem kStr {K : PySem.W.Frag} : ∀ d : PyData,
    PySem.W.kitOne K (.type (tyD d)) (.type "str") = some (isStr d)
  | .none => kit_ty (a := "NoneType") (b := "str") (r := false) (by decide +kernel)
  | .bool _ => kit_ty (a := "bool") (b := "str") (r := false) (by decide +kernel)
  | .int _ => kit_ty (a := "int") (b := "str") (r := false) (by decide +kernel)
  | .str _ => kit_ty (a := "str") (b := "str") (r := true) (by decide +kernel)
  | .list _ => kit_ty (a := "list") (b := "str") (r := false) (by decide +kernel)
  | .tuple _ => kit_ty (a := "tuple") (b := "str") (r := false) (by decide +kernel)
  | .dict _ => kit_ty (a := "dict") (b := "str") (r := false) (by decide +kernel)
theorem kList {K : PySem.W.Frag} : ∀ d : PyData,
    PySem.W.kitOne K (.type (tyD d)) (.type "list") = some (isList d)
  | .none => kit_ty (a := "NoneType") (b := "list") (r := false) (by decide +kernel)
  | .bool _ => kit_ty (a := "bool") (b := "list") (r := false) (by decide +kernel)
  | .int _ => kit_ty (a := "int") (b := "list") (r := false) (by decide +kernel)
  | .str _ => kit_ty (a := "str") (b := "list") (r := false) (by decide +kernel)
  | .list _ => kit_ty (a := "list") (b := "list") (r := true) (by decide +kernel)
  | .tuple _ => kit_ty (a := "tuple") (b := "list") (r := false) (by decide +kernel)
  | .dict _ => kit_ty (a := "dict") (b := "list") (r := false) (by decide +kernel)

theorem winB_inv {d : PyData} (h : winB d = true) : ∃ w : Wn, d = wD w ∧ 0 ≤ w.1 ∧ ∀ x, w.2 = some x → w.1 ≤ x := by
  unfold winB at h
  split at h
  · rename_i lo hi
    simp only [Bool.and_eq_true, Bool.or_eq_true] at h
    obtain ⟨h1, h2⟩ := h
    cases lo with
    | int l =>
      have l0 : 0 ≤ l := by simpa [verB] using h1
      cases hi with
      | none => exact ⟨(l, none), rfl, l0, fun x e => by cases e⟩
      | int z =>
        have h3 : verB (.int z) = true ∧ geB (.int z) (.int l) = true := by simpa [isNone] using h2
        have h4 : l ≤ z := by simpa [geB] using h3.2
        exact ⟨(l, some z), rfl, l0, fun x e => by cases e; exact h4⟩
      | _ => simp [isNone, verB] at h2
    | _ => simp [verB] at h1
  · cases h
theorem verB_inv {d : PyData} (h : verB d = true) : ∃ i : Int, d = .int i ∧ 0 ≤ i := by
  cases d with
  | int i => exact ⟨i, rfl, by simpa [verB] using h⟩
  | _ => simp [verB] at h
theorem win_wD {w : Wn} (h0 : 0 ≤ w.1) (h1 : ∀ x, w.2 = some x → w.1 ≤ x) : winB (wD w) = true := by
  obtain ⟨l, o⟩ := w
  cases o with
  | none =>
    have e : 0 ≤ l := h0
    simp [wD, winB, verB, hD, isNone, e]
  | some x =>
    have e1 : 0 ≤ l := h0
    have e2 : l ≤ x := h1 x rfl
    have e3 : 0 ≤ x := by omega
    simp [wD, winB, verB, hD, isNone, geB, e1, e2, e3]
theorem win_at {H : Hp} {v : V} {w : Wn} (h : Da H v (wD w)) : ∃ t, v = .ref t ∧ WinAt H t w := by
  obtain ⟨l, o⟩ := w
  unfold wD at h
  cases h with
  | @tup a xs _ ha t =>
    cases t with
    | cons h1 t =>
      cases t with
      | cons h2 t =>
        cases t
        cases h1
        refine ⟨a, rfl, ?_⟩
        cases o with
        | none => cases h2; exact ha
        | some x => cases h2; exact ha
def reach : Option Int → Int → Bool
  | none, _ => true
  | some h, n => decide (h ≥ n)
def contW (w : Wn) (n : Int) : Bool := decide (w.1 ≤ n) && reach w.2 n
def risW (a b : Wn) : Bool :=
  if b.1 < a.1 then false else match a.2 with
    | none => b.2.isNone
    | some g => reach b.2 g
def spB (b : PyData → Bool) : Sp := fun vs H Q _ => ∃ (v : V) (d : PyData),
  vs = [v] ∧ Da H v d ∧ Q (.bl (b d)) H
/-- the error of a class with one field -/
def Err (E : XK) (C : Addr) (f : Str) (v : V) (H : Hp) : Prop := ∀ d, H d = none → E (.ref C) (some d) (upd H d (.xd [(f, v)]))
def spReqX (b : PyData → Bool) (C : Addr) : Sp := fun vs H Q E => ∃ (v : V) (d : PyData), vs = [v] ∧ Da H v d ∧ (b d = true → Q .non H) ∧
  (b d = false → Err E C "value" v H)
def spReach : Sp := fun vs H Q _ => ∃ (h : Option Int) (n : Int), vs = [hV h, .int n] ∧ Q (.bl (reach h n)) H
def spCont (CW CV : Addr) : Sp := fun vs H Q E => ∃ (v1 v2 : V) (d1 d2 : PyData), vs = [v1, v2] ∧ Da H v1 d1 ∧ Da H v2 d2 ∧
  (∀ w x, winB d1 = true → verB d2 = true → d1 = wD w → d2 = .int x → Q (.bl (contW w x)) H) ∧
  (winB d1 = false → Err E CW "value" v1 H) ∧ (winB d1 = true → verB d2 = false → Err E CV "value" v2 H)
def spRises (CW : Addr) : Sp := fun vs H Q E => ∃ (v1 v2 : V) (d1 d2 : PyData), vs = [v1, v2] ∧ Da H v1 d1 ∧ Da H v2 d2 ∧
  (∀ w u, winB d1 = true → winB d2 = true → d1 = wD w → d2 = wD u → Q (.bl (risW w u)) H) ∧
  (winB d1 = false → Err E CW "value" v1 H) ∧ (winB d1 = true → winB d2 = false → Err E CW "value" v2 H)

def TOk (n : Nat) (z : Str) : Prop := z.length ≤ n ∧ ∀ c ∈ z.cps.toList, c < 1114112
def spVT : Sp := fun vs H Q _ => ∃ z : Str, vs = [.str z] ∧ z.length ≤ 1000 ∧ ∀ H', Same H H' → Q (.bl (canon z)) H'
def spFmt (C : Addr) : Sp := fun vs H Q E => ∃ (v : V) (d : PyData), vs = [v] ∧ Da H v d ∧ (∀ w, d = wD w → winB d = true → Wk w ∧ Q (.str (fmtW w)) H) ∧
  (winB d = false → Err E C "value" v H)
def spParse (C : Addr) : Sp := fun vs H Q E => ∃ (v : V) (d : PyData), vs = [v] ∧ Da H v d ∧
  (∀ z, d = .str z → z.length ≤ 600 ∧ (∀ w, readW z = some w → ∀ t H', Same H H' → H t = none → WinAt H' t w → Q (.ref t) H') ∧
    (readW z = none → ∀ H', Same H H' → Err E C "line" (.int 1) H')) ∧
  (isStr d = false → Err E C "line" (.int 0) H)


section
variable {P : Program} {w : World} {K : PySem.W.Frag} {mg : Str → Option Value} {base : Heap}
theorem scR : FnScope ["_law_script", "_law_k", "_law_cell"] ["_law_script", "_law_k"]
    (defScope sRng) :=
  ⟨rfl, rfl, rfl, by decide +kernel, rfl, by decide +kernel, by decide +kernel⟩
theorem ok_rng {f : Addr} {fd : FuncData} (F : Fun K "_law_rng" "_law_rng" sRng f fd) (T : Txt mg) :
    FnOk P w K mg base CX0 1 f fd ["_law_script", "_law_k"] (spRng K) := by
  refine F.ok scR (fun vs H Q E h => ?_) (fun cdv A outer s H vs Q E hr h => ?_)
  · obtain ⟨a, ns, k, rfl, _⟩ := h
    rfl
  · obtain ⟨a, ns, k, rfl, hS, k0, k1, q⟩ := h
    refine ⟨_, pss_cons (ps_set (i := 2) scR.nd rfl (Or.inl rfl)
        (pe_ifExp (pt_cmpR op_lt (pv 1) (pe_callB call_len_seq (by rfl) T.len PySem.boot_len (pa_cons (pv 0) pa_nil)) (nomark _))
          (pe_callB call_abs (by rfl) T.abs (by decide +kernel) (pa_cons (pe_ix ix_list (pv 0) (pv 1) (fun _ _ => rfl)) pa_nil)) pe_int))
      (pss_one (ps_ret (pe_lst (pa_cons
        (pe_callB (call_max2 rfl) (by rfl) T.max (by decide +kernel) (pa_cons pe_int (pa_cons (pe_op op_sub (pv 2) (pe_op op_pow pe_int pe_int)) pa_nil)))
        (pa_cons (pe_op op_add (pe_op op_mod (pe_op op_pow (pe_op op_add (pe_op op_add (pe_op op_mod (pv 2) pe_int) (pe_op op_mul pe_int (pv 1))) pe_int) pe_int) pe_int) pe_int) pa_nil))))), ?_⟩
    refine ⟨_, rfl, _, rfl, a, _, rfl, .inl hS, _, _, rfl, rfl, _, rfl, ?_⟩
    have fin : ∀ c : Int, 0 ≤ c → ∀ (x y : Int), x = (if c - 10 ^ (18 : Int).toNat > 0 then c - 10 ^ (18 : Int).toNat else 0) →
        y = (c % 2147483543 + 101 * k + 7) ^ (2 : Int).toNat % 2147483497 + 1 → 0 ≤ x ∧ 0 ≤ y ∧ y < 2147483587 := by
      intro c hc x y hx hy
      have e1 := Int.emod_nonneg ((c % 2147483543 + 101 * k + 7) ^ (2 : Int).toNat) (by decide : (2147483497 : Int) ≠ 0)
      have e2 := Int.emod_lt_of_pos ((c % 2147483543 + 101 * k + 7) ^ (2 : Int).toNat) (by decide : (0 : Int) < 2147483497)
      refine ⟨?_, by omega, by omega⟩
      rw [hx]
      split <;> omega
    have tail : ∀ c : Int, 0 ≤ c → ∀ p, H p = none → ∀ (x y : Int), 0 ≤ x ∧ 0 ≤ y ∧ y < 2147483587 → Q (.ref p) (upd H p (.lst [.int x, .int y])) := by
      intro c hc p hp x y hxy
      exact q p _ hp (fun b o e => by rw [upd_ne (ne_of_none e hp)]; exact e) ⟨x, y, upd_same, hxy⟩
    have bnd : ∀ c : Int, (c % 2147483543 + 101 * k + 7).natAbs < 2 ^ 64 := fun c => by
      have e1 := Int.emod_nonneg c (by decide : (2147483543 : Int) ≠ 0)
      have e2 := Int.emod_lt_of_pos c (by decide : (0 : Int) < 2147483543)
      omega
    refine ite2 (fun hlt => ?_) (fun _ => ?_)
    · have hlt' : k < (ns.map V.int).length := of_decide_eq_true hlt
      have hk : k = ((k.toNat : Nat) : Int) := by omega
      have hk2 : k.toNat < ns.length := by rw [List.length_map] at hlt'; omega
      refine ⟨_, rfl, _, rfl, a, _, _, .int (ns[k.toNat]), rfl, rfl, hS, at_in k0 (by simp [hk2]), _, rfl, ?_⟩
      have hc : (0 : Int) ≤ if ns[k.toNat] < 0 then -ns[k.toNat] else ns[k.toNat] := by split <;> omega
      generalize (if ns[k.toNat] < 0 then -ns[k.toNat] else ns[k.toNat]) = c at hc
      refine ⟨_, rfl, _, _, rfl, rfl, ⟨by decide, by decide, by decide⟩, _, _, rfl, rfl, _, _, rfl, ?_⟩
      refine ⟨_, rfl, _, _, rfl, rfl, (by show (0 : Int) < 2147483543; decide), _, rfl, _, _, rfl, rfl, .inl ⟨by decide, by decide⟩, _, _, rfl, rfl, _, _, rfl, rfl, _, _, rfl, rfl, ⟨by decide, by decide, bnd c⟩, _, _, rfl, rfl, (by show (0 : Int) < 2147483497; decide), _, _, rfl, rfl, (by show 2 ≤ sizeLine; decide), fun p hp => ?_⟩
      exact tail c hc p hp _ _ (fin c hc _ _ rfl rfl)
    · refine ⟨_, rfl, _, _, rfl, rfl, ⟨by decide, by decide, by decide⟩, _, _, rfl, rfl, _, _, rfl, ?_⟩
      refine ⟨_, rfl, _, _, rfl, rfl, (by show (0 : Int) < 2147483543; decide), _, rfl, _, _, rfl, rfl, .inl ⟨by decide, by decide⟩, _, _, rfl, rfl, _, _, rfl, rfl, _, _, rfl, rfl, ⟨by decide, by decide, bnd 0⟩, _, _, rfl, rfl, (by show (0 : Int) < 2147483497; decide), _, _, rfl, rfl, (by show 2 ≤ sizeLine; decide), fun p hp => ?_⟩
      exact tail 0 (by decide) p hp _ _ (fin 0 (by decide) _ _ rfl rfl)

theorem scD : FnScope ["_law_rng_here", "_law_many", "_law_digit"] ["_law_rng_here", "_law_many"]
    (defScope sDraw) :=
  ⟨rfl, rfl, rfl, by decide +kernel, rfl, by decide +kernel, by decide +kernel⟩
theorem ok_draw {f : Addr} {fd : FuncData} (F : Fun K "_law_draw" "_law_draw" sDraw f fd) (T : Txt mg) :
    FnOk P w K mg base CX0 1 f fd ["_law_rng_here", "_law_many"] spDraw := by
  refine F.ok scD (fun vs H Q E h => ?_) (fun cdv A outer s H vs Q E hr h => ?_)
  · obtain ⟨r, m, rfl, _⟩ := h
    rfl
  · obtain ⟨r, m, rfl, R, m0, m1, q⟩ := h
    have R' := R
    obtain ⟨a, b, hL, a0, b0, b1⟩ := R
    refine ⟨_, pss_cons (ps_if (pt_cmpR op_gt (pe_ix ix_list (pv 0) pe_int (fun _ _ => rfl)) pe_int (nomark _))
        (pss_cons (ps_asg (pe_callB call_divmodW (by rfl) T.divmod (by decide +kernel) (pa_cons (pe_ix ix_list (pv 0) pe_int (fun _ _ => rfl)) (pa_cons (pv 1) pa_nil)))
            (pg_tup rfl (pgs_cons (pg_sub (pv 0) pe_int set_list) (pgs_cons (pg_name (i := 2) scD.nd rfl (Or.inl rfl)) pgs_nil))))
          (pss_one (ps_ret (pv 2)))) pss_nil)
      (pss_cons (ps_asg (pe_op op_mod (pe_op op_add (pe_op op_mul (pe_ix ix_list (pv 0) pe_int (fun _ _ => rfl)) pe_int) pe_int) pe_int) (pg_sub (pv 0) pe_int set_list))
        (pss_one (ps_ret (pe_op op_mod (pe_op op_fdiv (pe_op op_mod (pe_op op_mul (pe_ix ix_list (pv 0) pe_int (fun _ _ => rfl)) (pe_ix ix_list (pv 0) pe_int (fun _ _ => rfl))) pe_int) pe_int) (pv 1))))), ?_⟩
    refine ⟨_, rfl, r, _, _, _, rfl, rfl, SqL.of hL, rfl, _, _, rfl, rfl, _, rfl, ?_⟩
    refine ite2 (fun hgt => ?_) (fun _ => ?_)
    · refine ⟨_, rfl, r, _, _, _, rfl, rfl, SqL.of hL, rfl, _, rfl, _, _, rfl, ⟨m0, PyProof.noPylong_of_log2 (Nat.lt_of_lt_of_le (PySem.Flt.log2_lt_of (by decide) m1) (by decide))⟩, fun p hp => ?_⟩
      have nrp : r ≠ p := ne_of_none hL hp
      refine ⟨p, _, rfl, SqT.of upd_same, rfl, ?_⟩
      refine ⟨_, _, rfl, _, rfl, r, _, _, _, rfl, rfl, (by rw [upd_ne nrp]; exact hL), rfl, ?_⟩
      refine ⟨_, _, rfl, rfl, _, rfl, ?_⟩
      refine q _ _ ((Ext.new hp).trans Ext.at) ⟨_, _, upd_same, Int.ediv_nonneg a0 (by omega), b0, b1⟩ (Int.emod_nonneg _ (by omega)) (Int.emod_lt_of_pos _ m0)
    · refine ⟨_, rfl, r, _, _, _, rfl, rfl, SqL.of hL, rfl, _, _, rfl, rfl, .inr ⟨by decide, by decide⟩, _, _, rfl, rfl, _, _, rfl, rfl, (by show (0 : Int) < 2147483587; decide), ?_⟩
      refine ⟨_, rfl, r, _, _, _, rfl, rfl, hL, rfl, ?_⟩
      have c0 := Int.emod_nonneg (b * 48271 + 10007) (by decide : (2147483587 : Int) ≠ 0)
      have c1 := Int.emod_lt_of_pos (b * 48271 + 10007) (by decide : (0 : Int) < 2147483587)
      refine ⟨_, rfl, r, _, _, _, rfl, rfl, SqL.of upd_same, rfl, _, rfl, r, _, _, _, rfl, rfl, SqL.of upd_same, rfl, _, _, rfl, rfl, .inl ⟨Int.lt_of_lt_of_le (by decide) c0, Int.lt_trans c1 (by decide)⟩, _, _, rfl, rfl, (by show (0 : Int) < 2147483549; decide), _, _, rfl, rfl, ⟨by decide, by decide⟩, _, rfl, _, _, rfl, rfl, m0, ?_⟩
      exact q _ _ Ext.at ⟨_, _, upd_same, a0, c0, c1⟩ (Int.emod_nonneg _ (by omega)) (Int.emod_lt_of_pos _ m0)

theorem scC : FnScope ["_law_rng_here", "_law_options"] ["_law_rng_here", "_law_options"]
    (defScope sChoice) :=
  ⟨rfl, rfl, rfl, by decide +kernel, rfl, by decide +kernel, by decide +kernel⟩
theorem ok_choice {f fD : Addr} {fd fdD : FuncData} (F : Fun K "_law_choice" "_law_choice" sChoice f fd) (T : Txt mg)
    (D : Fun K "_law_draw" "_law_draw" sDraw fD fdD) (bD : Binds K fdD ["_law_rng_here", "_law_many"] []) (gD : mg "_law_draw" = some (.ref fD)) :
    FnOk P w K mg base CX0 2 f fd ["_law_rng_here", "_law_options"] (spChoice K) := by
  refine F.ok scC (fun vs H Q E h => ?_) (fun cdv A outer s H vs Q E hr h => ?_)
  · obtain ⟨r, l, xs, rfl, _⟩ := h
    rfl
  · obtain ⟨r, l, xs, rfl, R, hl, nl, x0, x1, q⟩ := h
    refine ⟨_, pss_one (ps_ret (pe_ix ix_list (pv 1) (pe_call (ok_draw D T) hr (by rfl) gD D.kp bD .nil pass0 (pa_cons (pv 0) (pa_cons (pe_callB call_len_seq (by rfl) T.len PySem.boot_len (pa_cons (pv 1) pa_nil)) pa_nil))) (fun _ _ => rfl))), ?_⟩
    refine ⟨_, rfl, _, rfl, _, rfl, l, _, rfl, .inl hl, r, _, rfl, R, by omega, by omega, fun d H' E' R' d0 d1 => ?_⟩
    have hd : d = ((d.toNat : Nat) : Int) := by omega
    have hd2 : d.toNat < xs.length := by omega
    refine ⟨l, _, _, xs[d.toNat], rfl, rfl, E'.sqL nl hl, at_in d0 (by simp [hd2]), ?_⟩
    exact q _ _ E' R' (List.getElem_mem _)

theorem scV : FnScope ["value"] ["value"] (defScope sIsVer) :=
  ⟨rfl, rfl, rfl, by decide +kernel, rfl, by decide +kernel, by decide +kernel⟩
theorem ok_ver {f : Addr} {fd : FuncData} (F : Fun K "is_version" "is_version" sIsVer f fd) (T : Txt mg) :
    FnOk P w K mg base CX0 1 f fd ["value"] (spB verB) := by
  refine F.ok scV (fun vs H Q E h => ?_) (fun cdv A outer s H vs Q E hr h => ?_)
  · obtain ⟨v, d, rfl, _⟩ := h
    rfl
  · obtain ⟨v, d, rfl, hd, q0⟩ := h
    refine ⟨_, pss_one (ps_ret (pe_and (pe_callB call_isi (by rfl) T.isi (by decide +kernel) (pa_cons (pv 0) (pa_cons (pe_bltn (v := .ty "int") (by rfl) T.int (by decide +kernel) rfl) pa_nil)))
      (pe_and (pe_not (pe_callB call_isi (by rfl) T.isi (by decide +kernel) (pa_cons (pv 0) (pa_cons (pe_bltn (v := .ty "bool") (by rfl) T.bool (by decide +kernel) rfl) pa_nil))))
        (pe_one (pe_cmpR op_ge (pv 0) pe_int (nomark _)))))), ?_⟩
    have ty := hd.ty (K := K)
    refine ⟨_, rfl, _, _, _, _, _, rfl, .ty _, ty, kInt d, _, rfl, ?_⟩
    cases hd with
    | int i => exact iteT ⟨_, rfl, _, _, _, _, _, rfl, .ty _, ty, kBool _, _, rfl, _, rfl, iteT ⟨_, rfl, _, _, rfl, rfl, q0⟩⟩
    | bl b => exact iteT ⟨_, rfl, _, _, _, _, _, rfl, .ty _, ty, kBool _, _, rfl, _, rfl, iteF q0⟩
    | non => exact iteF q0
    | str i => exact iteF q0
    | lst n h t => exact iteF q0
    | tup h t => exact iteF q0
    | dic h t => exact iteF q0


theorem scW : FnScope ["value", "low", "high"] ["value"] (defScope sIsWin) :=
  ⟨rfl, rfl, rfl, by decide +kernel, rfl, by decide +kernel, by decide +kernel⟩
theorem ok_win {f f1 : Addr} {fd fd1 : FuncData} (F : Fun K "is_window" "is_window" sIsWin f fd) (T : Txt mg)
    (F1 : Fun K "is_version" "is_version" sIsVer f1 fd1) (b1 : Binds K fd1 ["value"] []) (g1 : mg "is_version" = some (.ref f1)) :
    FnOk P w K mg base CX0 2 f fd ["value"] (spB winB) := by
  have G1 : FnOk P w K mg base CX0 1 f1 fd1 ["value"] (spB verB) := ok_ver F1 T
  refine F.ok scW (fun vs H Q E h => ?_) (fun cdv A outer s H vs Q E hr h => ?_)
  · obtain ⟨v, d, rfl, _⟩ := h
    rfl
  · obtain ⟨v, d, rfl, hd, q⟩ := h
    refine ⟨_, pss_cons (ps_if (PW.pt (pw_or (pt_not (pt_val (pe_callB call_isi (by rfl) T.isi (by decide +kernel) (pa_cons (pv 0) (pa_cons (pe_bltn (v := .ty "tuple") (by rfl) T.tuple (by decide +kernel) rfl) pa_nil)))))
          (pw_or1 (pt_cmpR op_ne (pe_callB call_len_seq (by rfl) T.len PySem.boot_len (pa_cons (pv 0) pa_nil)) pe_int (nomark _)))))
        (pss_one (ps_ret pe_bl)) pss_nil)
      (pss_cons (ps_asg (pv 0) (pg_tup rfl (pgs_cons (pg_name (i := 1) scW.nd rfl (Or.inl rfl)) (pgs_cons (pg_name (i := 2) scW.nd rfl (Or.inl rfl)) pgs_nil))))
      (pss_cons (ps_if (pt_not (pt_val (pe_call G1 hr (by rfl) g1 F1.kp b1 .nil pass0 (pa_cons (pv 1) pa_nil)))) (pss_one (ps_ret pe_bl)) pss_nil)
      (pss_one (ps_ret (pe_or (pe_cmp (pc_isN (pv 2))) (pe_one (pe_and (pe_call G1 hr (by rfl) g1 F1.kp b1 .nil pass0 (pa_cons (pv 2) pa_nil)) (pe_one (pe_cmpR op_ge (pv 2) (pv 1) (nomark _)))))))))), ?_⟩
    have ty := hd.ty (K := K)
    refine ⟨_, rfl, _, _, _, _, _, rfl, .ty _, ty, kTuple d, _, rfl, ?_⟩
    cases hd with
    | @tup a xs ds h t =>
      refine iteF ?_
      refine ⟨_, rfl, a, _, rfl, .inr (SqT.of h), rfl, _, rfl, ?_⟩
      match xs, ds, t with
      | [x, y], [dx, dy], .cons hx (.cons hy .nil) =>
        refine iteF ?_
        refine ⟨_, rfl, a, _, rfl, SqT.of h, rfl, _, _, rfl, _, _, rfl, rfl, ?_⟩
        refine ⟨_, rfl, x, dx, rfl, hx, _, rfl, ?_⟩
        cases hb : verB dx with
        | false =>
          have e : winB (.tuple [dx, dy]) = false := by simp [winB, hb]
          rw [e] at q
          exact iteT q
        | true =>
          refine iteF ?_
          refine ⟨_, rfl, _, rfl, ?_⟩
          cases hx with
          | int l =>
            cases hy with
            | non => exact iteT (by simpa [winB, hb, isNone] using q)
            | int z =>
              refine iteF ?_
              refine ⟨_, rfl, _, _, rfl, .int z, _, rfl, ?_⟩
              cases hz : verB (.int z) with
              | false =>
                have e : winB (.tuple [.int l, .int z]) = false := by simp [winB, hz, isNone]
                rw [e] at q
                exact iteF q
              | true =>
                refine iteT ⟨_, rfl, _, rfl, _, _, rfl, rfl, ?_⟩
                have e : winB (.tuple [.int l, .int z]) = decide (z ≥ l) := by simp [winB, hb, hz, isNone, geB]
                rw [e] at q
                exact q
            | bl z => exact iteF ⟨_, rfl, _, _, rfl, .bl z, _, rfl, iteF (by simpa [winB, verB, isNone] using q)⟩
            | str z => exact iteF ⟨_, rfl, _, _, rfl, .str z, _, rfl, iteF (by simpa [winB, verB, isNone] using q)⟩
            | lst n2 h2 t2 => exact iteF ⟨_, rfl, _, _, rfl, .lst n2 h2 t2, _, rfl, iteF (by simpa [winB, verB, isNone] using q)⟩
            | tup h2 t2 => exact iteF ⟨_, rfl, _, _, rfl, .tup h2 t2, _, rfl, iteF (by simpa [winB, verB, isNone] using q)⟩
            | dic h2 t2 => exact iteF ⟨_, rfl, _, _, rfl, .dic h2 t2, _, rfl, iteF (by simpa [winB, verB, isNone] using q)⟩
          | _ => simp [verB] at hb
      | [], [], .nil => exact iteT q
      | [x], [dx], .cons hx .nil => exact iteT q
      | x :: y :: z :: r, dx :: dy :: dz :: dr, .cons hx (.cons hy (.cons hz t)) =>
        have e : decide (V.int ((x :: y :: z :: r).length : Nat) = V.int 2) = false := by
          apply decide_eq_false
          intro z
          have := V.int.inj z
          simp only [List.length_cons] at this
          omega
        rw [e]
        exact iteT q
    | int i => exact iteT q
    | bl b => exact iteT q
    | non => exact iteT q
    | str i => exact iteT q
    | lst n h t => exact iteT q
    | dic h t => exact iteT q


theorem scRV : FnScope ["value"] ["value"] (defScope sReqVer) :=
  ⟨rfl, rfl, rfl, by decide +kernel, rfl, by decide +kernel, by decide +kernel⟩
theorem ok_reqV {f f1 C : Addr} {fd fd1 : FuncData} (F : Fun K "require_version" "require_version" sReqVer f fd)
    (G1 : FnOk P w K mg base CX0 1 f1 fd1 ["value"] (spB verB)) (k1 : PySem.W.keepIn K (.ref f1) = true) (b1 : Binds K fd1 ["value"] []) (g1 : mg "is_version" = some (.ref f1))
    (TV : XCls P w K mg base "InvalidVersion" C "value" "value") :
    FnOk P w K mg base (L2.CX P w) 3 f fd ["value"] (spReqX verB C) := by
  refine F.okX scRV (fun vs H Q E h => ?_) (fun cdv A outer s H vs Q E hr h => ?_)
  · obtain ⟨v, d, rfl, _⟩ := h
    rfl
  · obtain ⟨v, d, rfl, hd, q1, q2⟩ := h
    have hr1 : Room 1 _ := hr.mono (by decide)
    refine ⟨_, pss_one (ps_if (pt_not (pt_val (pe_call G1 hr1 (by rfl) g1 k1 b1 .nil pass0 (pa_cons (pv 0) pa_nil))))
      (pss_one (ps_raiseC rfl TV hr (takes_of rfl rfl rfl rfl) (by rfl) (pv 0))) pss_nil), ?_⟩
    refine ⟨_, rfl, v, d, rfl, hd, _, rfl, ?_⟩
    cases hb : verB d with
    | true => exact iteF (q1 hb)
    | false => exact iteT ⟨_, rfl, made_go (q2 hb)⟩
theorem scRW : FnScope ["value"] ["value"] (defScope sReqWin) :=
  ⟨rfl, rfl, rfl, by decide +kernel, rfl, by decide +kernel, by decide +kernel⟩
theorem ok_reqX {f f1 C : Addr} {fd fd1 : FuncData} (F : Fun K "require_window" "require_window" sReqWin f fd)
    (G1 : FnOk P w K mg base CX0 2 f1 fd1 ["value"] (spB winB)) (k1 : PySem.W.keepIn K (.ref f1) = true) (b1 : Binds K fd1 ["value"] []) (g1 : mg "is_window" = some (.ref f1))
    (TW : XCls P w K mg base "InvalidWindow" C "value" "value") :
    FnOk P w K mg base (L2.CX P w) 3 f fd ["value"] (spReqX winB C) := by
  refine F.okX scRW (fun vs H Q E h => ?_) (fun cdv A outer s H vs Q E hr h => ?_)
  · obtain ⟨v, d, rfl, _⟩ := h
    rfl
  · obtain ⟨v, d, rfl, hd, q1, q2⟩ := h
    refine ⟨_, pss_one (ps_if (pt_not (pt_val (pe_call G1 hr (by rfl) g1 k1 b1 .nil pass0 (pa_cons (pv 0) pa_nil))))
      (pss_one (ps_raiseC rfl TW hr (takes_of rfl rfl rfl rfl) (by rfl) (pv 0))) pss_nil), ?_⟩
    refine ⟨_, rfl, v, d, rfl, hd, _, rfl, ?_⟩
    cases hb : winB d with
    | true => exact iteF (q1 hb)
    | false => exact iteT ⟨_, rfl, made_go (q2 hb)⟩
theorem scQ : FnScope ["high", "version"] ["high", "version"] (defScope sReach) :=
  ⟨rfl, rfl, rfl, by decide +kernel, rfl, by decide +kernel, by decide +kernel⟩
theorem ok_reach {f : Addr} {fd : FuncData} (F : Fun K "reaches" "reaches" sReach f fd) :
    FnOk P w K mg base CX0 1 f fd ["high", "version"] spReach := by
  refine F.ok scQ (fun vs H Q E h => ?_) (fun cdv A outer s H vs Q E hr h => ?_)
  · obtain ⟨h, n, rfl, _⟩ := h
    rfl
  · obtain ⟨h, n, rfl, q⟩ := h
    refine ⟨_, pss_one (ps_ret (pe_or (pe_cmp (pc_isN (pv 0))) (pe_one (pe_cmpR op_ge (pv 0) (pv 1) (nomark _))))), ?_⟩
    refine ⟨_, rfl, _, rfl, ?_⟩
    cases h with
    | none => exact iteT q
    | some x => exact iteF ⟨_, rfl, _, rfl, _, _, rfl, rfl, q⟩
theorem scK : FnScope ["window", "version", "low", "high"] ["window", "version"] (defScope sCont) :=
  ⟨rfl, rfl, rfl, by decide +kernel, rfl, by decide +kernel, by decide +kernel⟩
theorem ok_cont {f f1 f2 f3 CW CV : Addr} {fd fd1 fd2 fd3 : FuncData} (F : Fun K "contains" "contains" sCont f fd)
    (G1 : FnOk P w K mg base (L2.CX P w) 3 f1 fd1 ["value"] (spReqX winB CW)) (k1 : PySem.W.keepIn K (.ref f1) = true) (b1 : Binds K fd1 ["value"] []) (g1 : mg "require_window" = some (.ref f1))
    (G2 : FnOk P w K mg base (L2.CX P w) 3 f2 fd2 ["value"] (spReqX verB CV)) (k2 : PySem.W.keepIn K (.ref f2) = true) (b2 : Binds K fd2 ["value"] []) (g2 : mg "require_version" = some (.ref f2))
    (G3 : FnOk P w K mg base CX0 1 f3 fd3 ["high", "version"] spReach) (k3 : PySem.W.keepIn K (.ref f3) = true) (b3 : Binds K fd3 ["high", "version"] []) (g3 : mg "reaches" = some (.ref f3)) :
    FnOk P w K mg base (L2.CX P w) 4 f fd ["window", "version"] (spCont CW CV) := by
  refine F.okX scK (fun vs H Q E h => ?_) (fun cdv A outer s H vs Q E hr h => ?_)
  · obtain ⟨v1, v2, d1, d2, rfl, _⟩ := h
    rfl
  · obtain ⟨v1, v2, d1, d2, rfl, h1, h2, q1, q2, q3⟩ := h
    have hr1 : Room 1 _ := hr.mono (by decide)
    refine ⟨_, pss_cons (ps_expr (pe_call G1 hr (by rfl) g1 k1 b1 .nil (passes_call (E := E) (takes_of rfl rfl rfl rfl) (fun _ _ _ _ h => h)) (pa_cons (pv 0) pa_nil)))
      (pss_cons (ps_expr (pe_call G2 hr (by rfl) g2 k2 b2 .nil (passes_call (E := E) (takes_of rfl rfl rfl rfl) (fun _ _ _ _ h => h)) (pa_cons (pv 1) pa_nil)))
      (pss_cons (ps_asg (pv 0) (pg_tup rfl (pgs_cons (pg_name (i := 2) scK.nd rfl (Or.inl rfl)) (pgs_cons (pg_name (i := 3) scK.nd rfl (Or.inl rfl)) pgs_nil))))
      (pss_one (ps_ret (pe_and (pe_cmpR op_le (pv 2) (pv 1) (nomark _)) (pe_one (pe_call G3 hr1 (by rfl) g3 k3 b3 .nil pass0 (pa_cons (pv 3) (pa_cons (pv 1) pa_nil))))))))), ?_⟩
    refine ⟨_, rfl, v1, d1, rfl, h1, fun hb => ?_, q2⟩
    refine ⟨_, rfl, v2, d2, rfl, h2, fun hv => ?_, q3 hb⟩
    obtain ⟨ww, rfl, w0, w1⟩ := winB_inv hb
    obtain ⟨n, rfl, n0⟩ := verB_inv hv
    have q := q1 ww n hb hv rfl rfl
    obtain ⟨t, rfl, hw⟩ := win_at h1
    cases h2
    refine ⟨_, rfl, t, _, rfl, SqT.of hw, rfl, _, _, rfl, _, _, rfl, rfl, ?_⟩
    refine ⟨_, rfl, _, rfl, _, _, rfl, rfl, _, rfl, ?_⟩
    by_cases e : ww.1 ≤ n
    · rw [decide_eq_true e]
      refine iteT ⟨_, rfl, _, rfl, ww.2, n, rfl, ?_⟩
      have e2 : contW ww n = reach ww.2 n := by simp [contW, e]
      rw [e2] at q
      exact q
    · rw [decide_eq_false e]
      have e2 : contW ww n = false := by simp [contW, e]
      rw [e2] at q
      exact iteF q

theorem scH : FnScope ["first", "second", "first_low", "first_high", "second_low", "second_high"] ["first", "second"] (defScope sRises) :=
  ⟨rfl, rfl, rfl, by decide +kernel, rfl, by decide +kernel, by decide +kernel⟩
theorem ok_rises {f f1 f3 CW : Addr} {fd fd1 fd3 : FuncData} (F : Fun K "rises" "rises" sRises f fd)
    (G1 : FnOk P w K mg base (L2.CX P w) 3 f1 fd1 ["value"] (spReqX winB CW)) (k1 : PySem.W.keepIn K (.ref f1) = true) (b1 : Binds K fd1 ["value"] []) (g1 : mg "require_window" = some (.ref f1))
    (G3 : FnOk P w K mg base CX0 1 f3 fd3 ["high", "version"] spReach) (k3 : PySem.W.keepIn K (.ref f3) = true) (b3 : Binds K fd3 ["high", "version"] []) (g3 : mg "reaches" = some (.ref f3)) :
    FnOk P w K mg base (L2.CX P w) 4 f fd ["first", "second"] (spRises CW) := by
  refine F.okX scH (fun vs H Q E h => ?_) (fun cdv A outer s H vs Q E hr h => ?_)
  · obtain ⟨v1, v2, d1, d2, rfl, _⟩ := h
    rfl
  · obtain ⟨v1, v2, d1, d2, rfl, h1, h2, q1, q2, q3⟩ := h
    have hr1 : Room 1 _ := hr.mono (by decide)
    refine ⟨_, pss_cons (ps_expr (pe_call G1 hr (by rfl) g1 k1 b1 .nil (passes_call (E := E) (takes_of rfl rfl rfl rfl) (fun _ _ _ _ h => h)) (pa_cons (pv 0) pa_nil)))
      (pss_cons (ps_expr (pe_call G1 hr (by rfl) g1 k1 b1 .nil (passes_call (E := E) (takes_of rfl rfl rfl rfl) (fun _ _ _ _ h => h)) (pa_cons (pv 1) pa_nil)))
      (pss_cons (ps_asg (pv 0) (pg_tup rfl (pgs_cons (pg_name (i := 2) scH.nd rfl (Or.inl rfl)) (pgs_cons (pg_name (i := 3) scH.nd rfl (Or.inl rfl)) pgs_nil))))
      (pss_cons (ps_asg (pv 1) (pg_tup rfl (pgs_cons (pg_name (i := 4) scH.nd rfl (Or.inl rfl)) (pgs_cons (pg_name (i := 5) scH.nd rfl (Or.inl rfl)) pgs_nil))))
      (pss_cons (ps_if (pt_cmpR op_lt (pv 4) (pv 2) (nomark _)) (pss_one (ps_ret pe_bl)) pss_nil)
      (pss_cons (ps_if (pt_cmp (pc_isN (pv 3))) (pss_one (ps_ret (pe_cmp (pc_isN (pv 5))))) pss_nil)
      (pss_one (ps_ret (pe_call G3 hr1 (by rfl) g3 k3 b3 .nil pass0 (pa_cons (pv 5) (pa_cons (pv 3) pa_nil)))))))))), ?_⟩
    refine ⟨_, rfl, v1, d1, rfl, h1, fun hb1 => ?_, q2⟩
    refine ⟨_, rfl, v2, d2, rfl, h2, fun hb2 => ?_, q3 hb1⟩
    obtain ⟨a, rfl, a0, a1⟩ := winB_inv hb1
    obtain ⟨b, rfl, b0, b1'⟩ := winB_inv hb2
    have q := q1 a b hb1 hb2 rfl rfl
    obtain ⟨t, rfl, ha⟩ := win_at h1
    obtain ⟨u, rfl, hb⟩ := win_at h2
    refine ⟨_, rfl, t, _, rfl, SqT.of ha, rfl, _, _, rfl, _, _, rfl, rfl, ?_⟩
    refine ⟨_, rfl, u, _, rfl, SqT.of hb, rfl, _, _, rfl, _, _, rfl, rfl, ?_⟩
    refine ⟨_, rfl, _, rfl, _, _, rfl, rfl, _, rfl, ?_⟩
    by_cases e : b.1 < a.1
    · rw [decide_eq_true e]
      have e2 : risW a b = false := by simp [risW, e]
      rw [e2] at q
      exact iteT q
    · rw [decide_eq_false e]
      refine iteF ?_
      refine ⟨_, rfl, _, rfl, ?_⟩
      obtain ⟨al, ah⟩ := a
      obtain ⟨bl, bh⟩ := b
      have e' : ¬ bl < al := e
      cases ah with
      | none =>
        refine iteT ⟨_, rfl, ?_⟩
        have e2 : risW (al, none) (bl, bh) = decide (hV bh = .non) := by
          cases bh <;> simp [risW, e', hV]
        rw [e2] at q
        exact q
      | some x =>
        refine iteF ⟨_, rfl, _, rfl, bh, x, rfl, ?_⟩
        have e2 : risW (al, some x) (bl, bh) = reach bh x := by simp [risW, e']
        rw [e2] at q
        exact q

theorem scVT : FnScope ["text", "digit"] ["text"] (defScope sVT) :=
  ⟨rfl, rfl, rfl, by decide +kernel, rfl, by decide +kernel, by decide +kernel⟩
theorem dec_str (x y : Str) : decide (V.str x = V.str y) = decide (x = y) := by
  by_cases h : x = y
  · rw [h]; simp
  · rw [decide_eq_false h, decide_eq_false (fun z => h (V.str.inj z))]
theorem first_sign {z : Str} (h : z ≠ "") : ∃ c, z.cps.toList.head? = some c ∧ atI z.cps.toList 0 = some c := by
  cases e : z.cps.toList with
  | nil => exact absurd (TL.ext_tl (e.trans empL.symm)) h
  | cons c r => exact ⟨c, rfl, at_in (by decide) (by simp)⟩
theorem sign0 (c : Nat) : decide ((⟨#[c]⟩ : Str) = "0") = decide (c = 48) := by
  by_cases h : c = 48
  · subst h
    decide +kernel
  · rw [decide_eq_false h]
    apply decide_eq_false
    intro e
    have e2 := congrArg TL.tl e
    have e3 : [c] = [48] := e2.trans zeroL
    exact h (List.cons.inj e3).1
theorem ok_vt {f : Addr} {fd : FuncData} (F : Fun K "is_version_text" "is_version_text" sVT f fd) (T : Txt mg) :
    FnOk P w K mg base CX0 1 f fd ["text"] spVT := by
  obtain ⟨tD, gDg⟩ := T.dgs
  refine F.ok scVT (fun vs H Q E h => ?_) (fun cdv A outer s H vs Q E hr h => ?_)
  · obtain ⟨z, rfl, _⟩ := h
    rfl
  · obtain ⟨z, rfl, hz, q⟩ := h
    refine ⟨_, pss_cons (ps_if (PW.pt (pw_or (pt_cmpR op_eq (pv 0) pe_str (nomark _)) (pw_or1 (pt_not (pt_val (pe_callB (cr_all rfl) (by rfl) T.all (by decide +kernel) (pa_cons
          (pe_lc (own := [("digit", 1)]) (g := gName 1) (tt := tYes) rfl scVT.nd (pi_str (pv 0)) (blkOk_by (own := [("digit", 1)]) (N := ["text", "digit"]) (sc := defScope sVT) (by decide +kernel))
            (fun _ _ _ _ _ => pg_name (i := 1) scVT.nd rfl (Or.inl rfl)) (fun _ _ _ _ _ => pts_nil) (fun _ _ _ _ _ => pe_cmpR op_in_sign (pv 1) (pe_glob (v := .str DIG) rfl gDg ⟨_, rfl⟩) (by rfl))) pa_nil)))))))
        (pss_one (ps_ret pe_bl)) pss_nil)
      (pss_one (ps_ret (pe_or (pe_cmpR op_eq (pv 0) pe_str (nomark _)) (pe_one (pe_cmpR op_ne (pe_ix ix_str (pv 0) pe_int (fun _ _ => rfl)) pe_str (nomark _)))))), ?_⟩
    refine ⟨_, rfl, rfl, _, rfl, ?_⟩
    rw [dec_str]
    by_cases e0 : z = ""
    · rw [decide_eq_true e0]
      refine iteT ?_
      have e : canon z = false := by simp [canon, e0]
      have q0 := q H (Same.refl H)
      rw [e] at q0
      exact q0
    rw [decide_eq_false e0]
    refine iteF ?_
    refine ⟨_, rfl, z, rfl, fun D hD => lc_it walk_str
      (fun i J => Same H J ∧ J D = some (.lst (((z.cps.toList.take i).map dig).map V.bl)))
      ⟨new_same hD, upd_same⟩ (fun _ _ _ _ => trivial) ?_ ?_⟩
    · rintro i x J J' hi ⟨s1, l1⟩ ⟨rfl, c, hc, rfl⟩
      refine ⟨rfl, yesT ⟨_, rfl, c, _, rfl, rfl, _, l1, ?_, ?_, ?_⟩⟩
      · have e2 : z.cps.size ≤ 1000 := hz
        simp only [List.length_map, List.length_take, Array.length_toList]
        rw [sizeLine_eq]
        omega
      · intro b o e
        rw [upd_ne (ne_of_none e hD)]
        exact s1 b o e
      · rw [upd_same, take_next (c := c) (by simpa using hc)]
        simp [dig]
    · rintro J ⟨s1, l1⟩
      refine ⟨D, _, rfl, SqL.of l1, _, rfl, ?_⟩
      have ea : ((z.cps.toList.take z.cps.size).map dig).all id = z.cps.toList.all dig := by
        rw [List.take_of_length_le (by simp)]
        simp
      rw [ea]
      have q1 := q J s1
      cases hb : z.cps.toList.all dig with
      | false =>
        refine iteT ?_
        have e : canon z = false := by simp [canon, hb]
        rw [e] at q1
        exact q1
      | true =>
        refine iteF ?_
        refine ⟨_, rfl, rfl, _, rfl, ?_⟩
        rw [dec_str]
        by_cases e1 : z = "0"
        · rw [decide_eq_true e1]
          refine iteT ?_
          have e : canon z = true := by
            unfold canon
            rw [decide_eq_false e0, hb, decide_eq_true e1]
            rfl
          rw [e] at q1
          exact q1
        · rw [decide_eq_false e1]
          refine iteF ?_
          obtain ⟨c, h1, h2⟩ := first_sign e0
          refine ⟨_, rfl, z, _, c, rfl, rfl, Nat.le_trans hz (by decide), h2, rfl, ?_⟩
          have e : canon z = !decide (V.str ⟨#[c]⟩ = V.str "0") := by
            rw [dec_str, sign0]
            unfold canon hd0
            rw [decide_eq_false e0, hb, decide_eq_false e1, h1]
            simp
          rw [e] at q1
          exact q1

theorem lg_ok {i : Int} (h : i.natAbs < 10 ^ 130) : i.natAbs.log2 < 1920 :=
  Nat.lt_trans (PySem.Flt.log2_lt_of (by decide) (Nat.lt_trans h (by decide +kernel : 10 ^ 130 < 2 ^ 450))) (by decide)
theorem scFm : FnScope ["window", "low", "high"] ["window"] (defScope sFmt) :=
  ⟨rfl, rfl, rfl, by decide +kernel, rfl, by decide +kernel, by decide +kernel⟩
theorem len3 {a b c : Str} (h1 : a.length ≤ 200) (h2 : b.length ≤ 200) (h3 : c.length ≤ 200) : (a ++ b ++ c).length ≤ sizeLine := by
  rw [strLen_append, strLen_append, sizeLine_eq]
  omega
theorem ok_fmt {f f1 C : Addr} {fd fd1 : FuncData} (F : Fun K "format_window" "format_window" sFmt f fd)
    (G1 : FnOk P w K mg base (L2.CX P w) 3 f1 fd1 ["value"] (spReqX winB C)) (k1 : PySem.W.keepIn K (.ref f1) = true) (b1 : Binds K fd1 ["value"] []) (g1 : mg "require_window" = some (.ref f1)) :
    FnOk P w K mg base (L2.CX P w) 4 f fd ["window"] (spFmt C) := by
  refine F.okX scFm (fun vs H Q E h => ?_) (fun cdv A outer s H vs Q E hr h => ?_)
  · obtain ⟨v, d, rfl, _⟩ := h
    rfl
  · obtain ⟨v, d, rfl, hd, q1, q2⟩ := h
    refine ⟨_, pss_cons (ps_expr (pe_call G1 hr (by rfl) g1 k1 b1 .nil (passes_call (E := E) (takes_of rfl rfl rfl rfl) (fun _ _ _ _ h => h)) (pa_cons (pv 0) pa_nil)))
      (pss_cons (ps_asg (pv 0) (pg_tup rfl (pgs_cons (pg_name (i := 1) scFm.nd rfl (Or.inl rfl)) (pgs_cons (pg_name (i := 2) scFm.nd rfl (Or.inl rfl)) pgs_nil))))
      (pss_cons (ps_if (pt_cmp (pc_isN (pv 2))) (pss_one (ps_ret (pe_joined (.cons (pe_fmt (pv 1)) (.cons pe_str .nil))))) pss_nil)
      (pss_one (ps_ret (pe_joined (.cons (pe_fmt (pv 1)) (.cons pe_str (.cons (pe_fmt (pv 2)) .nil)))))))), ?_⟩
    refine ⟨_, rfl, v, d, rfl, hd, fun hb => ?_, q2⟩
    obtain ⟨ww, rfl, w0, w1⟩ := winB_inv hb
    obtain ⟨wk, qq⟩ := q1 ww rfl hb
    obtain ⟨t, rfl, ht⟩ := win_at hd
    refine ⟨_, rfl, t, _, rfl, SqT.of ht, rfl, _, _, rfl, _, _, rfl, rfl, ?_⟩
    obtain ⟨l, o⟩ := ww
    have a1 : (tx l).length ≤ 200 := Nat.le_trans (tx_len wk.1 wk.2.1) (by decide)
    have a0 : (Str.empty : Str).length ≤ 200 := by decide
    have a2 : DOT.length ≤ 200 := by decide +kernel
    have a3 : (Str.empty ++ tx l : Str).length ≤ 200 := by rw [nil_app]; exact a1
    have b1 : (Str.empty ++ tx l : Str).length ≤ sizeLine := Nat.le_trans a3 (by decide)
    have b2 : (Str.empty ++ tx l ++ DOT : Str).length ≤ sizeLine := by rw [strLen_append, sizeLine_eq]; omega
    refine ⟨_, rfl, _, rfl, ?_⟩
    cases o with
    | none =>
      refine iteT ⟨_, rfl, .inr ⟨l, rfl, lg_ok wk.2.1, _, rfl, b1, _, rfl, b2, ?_⟩⟩
      have e : (Str.empty ++ tx l ++ DOT : Str) = fmtW (l, none) := by
        rw [nil_app]
        exact (app_nil _).symm
      show Q (.str (Str.empty ++ tx l ++ DOT)) H
      rw [e]
      exact qq
    | some x =>
      have wx := wk.2.2 x rfl
      have c1 : (tx x).length ≤ 200 := Nat.le_trans (tx_len (Int.le_trans wk.1 wx.1) wx.2) (by decide)
      refine iteF ⟨_, rfl, .inr ⟨l, rfl, lg_ok wk.2.1, _, rfl, b1, _, rfl, b2, _, rfl, .inr ⟨x, rfl, lg_ok wx.2, _, rfl, len3 a3 a2 c1, ?_⟩⟩⟩
      have e : (Str.empty ++ tx l ++ DOT ++ tx x : Str) = fmtW (l, some x) := by
        rw [nil_app]
        rfl
      show Q (.str (Str.empty ++ tx l ++ DOT ++ tx x)) H
      rw [e]
      exact qq

theorem scPa : FnScope ["text", "low_text", "dots", "high_text"] ["text"] (defScope sParse) :=
  ⟨rfl, rfl, rfl, by decide +kernel, rfl, by decide +kernel, by decide +kernel⟩
theorem part_len (z : Str) : (pB z).length ≤ z.length ∧ (pA z).length ≤ z.length := by
  rcases part_cases z with ⟨_, e, e2⟩ | ⟨i, _, _, _, _, ez⟩
  · refine ⟨by rw [e2]; exact Nat.le_refl _, ?_⟩
    rcases PyProof.Rows.partition_whole z DOT with ⟨e3, _⟩ | ⟨j, e3, _, _⟩
    · unfold pA
      rw [e3]
      exact Nat.zero_le _
    · unfold pS at e
      rw [e3] at e
      exact absurd e dot_ne
  · have h := congrArg Str.length ez
    rw [strLen_append, strLen_append] at h
    omega
theorem ok_parse {f f1 C : Addr} {fd fd1 : FuncData} (F : Fun K "parse_window" "parse_window" sParse f fd) (T : Txt mg)
    (G1 : FnOk P w K mg base CX0 1 f1 fd1 ["text"] spVT) (k1 : PySem.W.keepIn K (.ref f1) = true) (b1 : Binds K fd1 ["text"] []) (g1 : mg "is_version_text" = some (.ref f1))
    (TT : XCls P w K mg base "InvalidText" C "line" "line") :
    FnOk P w K mg base (L2.CX P w) 3 f fd ["text"] (spParse C) := by
  refine F.okX scPa (fun vs H Q E h => ?_) (fun cdv A outer s H vs Q E hr h => ?_)
  · obtain ⟨v, d, rfl, _⟩ := h
    rfl
  · obtain ⟨v, d, rfl, hd, q1, q2⟩ := h
    have hr1 : Room 1 _ := hr.mono (by decide)
    refine ⟨_, pss_cons (ps_if (pt_not (pt_val (pe_callB call_isi (by rfl) T.isi (by decide +kernel) (pa_cons (pv 0) (pa_cons (pe_bltn (v := .ty "str") (by rfl) T.str (by decide +kernel) rfl) pa_nil)))))
        (pss_one (ps_raiseC rfl TT hr (takes_of rfl rfl rfl rfl) (by rfl) pe_int)) pss_nil)
      (pss_cons (ps_asg (pe_partition (pv 0) pe_str) (pg_tup rfl (pgs_cons (pg_name (i := 1) scPa.nd rfl (Or.inl rfl)) (pgs_cons (pg_name (i := 2) scPa.nd rfl (Or.inl rfl)) (pgs_cons (pg_name (i := 3) scPa.nd rfl (Or.inl rfl)) pgs_nil)))))
      (pss_cons (ps_if (PW.pt (pw_or (pt_cmpR op_eq (pv 2) pe_str (nomark _)) (pw_or1 (pt_not (pt_val (pe_call G1 hr1 (by rfl) g1 k1 b1 .nil pass0 (pa_cons (pv 1) pa_nil)))))))
        (pss_one (ps_raiseC rfl TT hr (takes_of rfl rfl rfl rfl) (by rfl) pe_int)) pss_nil)
      (pss_cons (ps_if (pt_cmpR op_eq (pv 3) pe_str (nomark _)) (pss_one (ps_ret (pe_tup (pa_cons (pe_callTy call_int_str (by rfl) T.int (by decide +kernel) (pa_cons (pv 1) pa_nil)) (pa_cons pe_non pa_nil))))) pss_nil)
      (pss_cons (ps_if (PW.pt (pw_or (pt_not (pt_val (pe_call G1 hr1 (by rfl) g1 k1 b1 .nil pass0 (pa_cons (pv 3) pa_nil))))
          (pw_or1 (pt_cmpR op_lt (pe_callTy call_int_str (by rfl) T.int (by decide +kernel) (pa_cons (pv 3) pa_nil)) (pe_callTy call_int_str (by rfl) T.int (by decide +kernel) (pa_cons (pv 1) pa_nil)) (nomark _)))))
        (pss_one (ps_raiseC rfl TT hr (takes_of rfl rfl rfl rfl) (by rfl) pe_int)) pss_nil)
      (pss_one (ps_ret (pe_tup (pa_cons (pe_callTy call_int_str (by rfl) T.int (by decide +kernel) (pa_cons (pv 1) pa_nil)) (pa_cons (pe_callTy call_int_str (by rfl) T.int (by decide +kernel) (pa_cons (pv 3) pa_nil)) pa_nil))))))))), ?_⟩
    have ty := hd.ty (K := K)
    refine ⟨_, rfl, _, _, _, _, _, rfl, .ty _, ty, kStr d, _, rfl, ?_⟩
    have no : isStr d = false → Err E C "line" (.int 0) H := q2
    cases hd with
    | str z =>
      refine iteF ?_
      obtain ⟨hl, qs, qn⟩ := q1 z rfl
      have pl := part_len z
      refine ⟨_, rfl, ⟨_, rfl⟩, z, DOT, rfl, rfl, by decide +kernel, Nat.le_trans hl (by decide), fun p hp => ?_⟩
      refine ⟨p, _, rfl, SqT.of upd_same, rfl, _, _, rfl, _, _, rfl, _, _, rfl, rfl, ?_⟩
      have S1 : Same H (upd H p (.tup [.str (pB z), .str (pS z), .str (pA z)])) := new_same hp
      obtain ⟨J1, e1⟩ : ∃ J, upd H p (.tup [.str (pB z), .str (pS z), .str (pA z)]) = J := ⟨_, rfl⟩
      have e1' : upd H p (.tup [.str (PySem.Txt.partition z DOT).1, .str (PySem.Txt.partition z DOT).2.1, .str (PySem.Txt.partition z DOT).2.2]) = J1 := e1
      rw [e1] at S1
      rw [e1']
      refine ⟨_, rfl, rfl, _, rfl, ?_⟩
      rw [dec_str]
      show if decide (pS z = "") = true then _ else _
      by_cases c1 : pS z = ""
      · rw [decide_eq_true c1]
        have e : readW z = none := by unfold readW; rw [if_pos (.inl c1)]
        exact iteT (iteT (made_go (qn e J1 S1)))
      · rw [decide_eq_false c1]
        refine iteF ⟨_, rfl, pB z, rfl, by omega, fun J2 S2 => ⟨_, rfl, ?_⟩⟩
        have S02 := S1.trans S2
        cases c2 : canon (pB z) with
        | false =>
          have e : readW z = none := by unfold readW; rw [if_pos (.inr c2)]
          exact iteT (made_go (qn e J2 S02))
        | true =>
          have n1 : ¬ (pS z = "" ∨ canon (pB z) = false) := by
            rintro (h | h)
            · exact c1 h
            · rw [c2] at h; cases h
          have i1 := canon_int c2 (by omega)
          refine iteF ⟨_, rfl, rfl, _, rfl, ?_⟩
          rw [dec_str]
          show if decide (pA z = "") = true then _ else _
          by_cases c3 : pA z = ""
          · rw [decide_eq_true c3]
            refine iteT ⟨_, rfl, _, _, rfl, i1, by show (pB z).length ≤ 640; omega, (by show 2 ≤ sizeLine; decide), fun t ht => ?_⟩
            have e : readW z = some (val (pB z), none) := by unfold readW; rw [if_neg n1, if_pos c3]
            exact qs _ e t _ (S02.trans (new_same ht)) (S02.free ht) upd_same
          · rw [decide_eq_false c3]
            refine iteF ⟨_, rfl, pA z, rfl, by omega, fun J3 S3 => ⟨_, rfl, ?_⟩⟩
            have S03 := S02.trans S3
            cases c4 : canon (pA z) with
            | false =>
              have e : readW z = none := by unfold readW; rw [if_neg n1, if_neg c3, if_pos (.inl c4)]
              exact iteT (iteT (made_go (qn e J3 S03)))
            | true =>
              have i2 := canon_int c4 (by omega)
              refine iteF ⟨_, rfl, _, _, rfl, i2, by show (pA z).length ≤ 640; omega, _, rfl, _, _, rfl, i1, by show (pB z).length ≤ 640; omega, _, _, rfl, rfl, _, rfl, ?_⟩
              by_cases c5 : val (pA z) < val (pB z)
              · rw [decide_eq_true c5]
                have e : readW z = none := by unfold readW; rw [if_neg n1, if_neg c3, if_pos (.inr c5)]
                exact iteT (made_go (qn e J3 S03))
              · rw [decide_eq_false c5]
                have n2 : ¬ (canon (pA z) = false ∨ val (pA z) < val (pB z)) := by
                  rintro (h | h)
                  · rw [c4] at h; cases h
                  · exact c5 h
                refine iteF ⟨_, rfl, _, _, rfl, i1, by show (pB z).length ≤ 640; omega, _, rfl, _, _, rfl, i2, by show (pA z).length ≤ 640; omega, (by show 2 ≤ sizeLine; decide), fun t ht => ?_⟩
                have e : readW z = some (val (pB z), some (val (pA z))) := by unfold readW; rw [if_neg n1, if_neg c3, if_neg n2]
                exact qs _ e t _ (S03.trans (new_same ht)) (S03.free ht) upd_same
    | non => exact iteT (made_go (no rfl))
    | bl b => exact iteT (made_go (no rfl))
    | int i => exact iteT (made_go (no rfl))
    | lst n h t => exact iteT (made_go (no rfl))
    | tup h t => exact iteT (made_go (no rfl))
    | dic h t => exact iteT (made_go (no rfl))
theorem scLV : FnScope ["_law_one"] ["_law_one"] (defScope sLIC) :=
  ⟨rfl, rfl, rfl, by decide +kernel, rfl, by decide +kernel, by decide +kernel⟩
theorem ok_liv {f : Addr} {fd : FuncData} (F : Fun K "_law_is_count" "_law_is_count" sLIC f fd) (T : Txt mg) :
    FnOk P w K mg base CX0 1 f fd ["_law_one"] (spB verB) := by
  refine F.ok scLV (fun vs H Q E h => ?_) (fun cdv A outer s H vs Q E hr h => ?_)
  · obtain ⟨v, d, rfl, _⟩ := h
    rfl
  · obtain ⟨v, d, rfl, hd, q0⟩ := h
    refine ⟨_, pss_one (ps_ret (pe_and (pe_callB call_isi (by rfl) T.isi (by decide +kernel) (pa_cons (pv 0) (pa_cons (pe_bltn (v := .ty "int") (by rfl) T.int (by decide +kernel) rfl) pa_nil)))
      (pe_and (pe_not (pe_callB call_isi (by rfl) T.isi (by decide +kernel) (pa_cons (pv 0) (pa_cons (pe_bltn (v := .ty "bool") (by rfl) T.bool (by decide +kernel) rfl) pa_nil))))
        (pe_one (pe_cmpR op_ge (pv 0) pe_int (nomark _)))))), ?_⟩
    have ty := hd.ty (K := K)
    refine ⟨_, rfl, _, _, _, _, _, rfl, .ty _, ty, kInt d, _, rfl, ?_⟩
    cases hd with
    | int i => exact iteT ⟨_, rfl, _, _, _, _, _, rfl, .ty _, ty, kBool _, _, rfl, _, rfl, iteT ⟨_, rfl, _, _, rfl, rfl, q0⟩⟩
    | bl b => exact iteT ⟨_, rfl, _, _, _, _, _, rfl, .ty _, ty, kBool _, _, rfl, _, rfl, iteF q0⟩
    | non => exact iteF q0
    | str i => exact iteF q0
    | lst n h t => exact iteF q0
    | tup h t => exact iteF q0
    | dic h t => exact iteF q0
theorem scLW : FnScope ["_law_one"] ["_law_one"] (defScope sLIW) :=
  ⟨rfl, rfl, rfl, by decide +kernel, rfl, by decide +kernel, by decide +kernel⟩
theorem ok_liw {f f1 : Addr} {fd fd1 : FuncData} (F : Fun K "_law_is_window" "_law_is_window" sLIW f fd) (T : Txt mg)
    (G1 : FnOk P w K mg base CX0 1 f1 fd1 ["_law_one"] (spB verB)) (k1 : PySem.W.keepIn K (.ref f1) = true) (b1 : Binds K fd1 ["_law_one"] []) (g1 : mg "_law_is_count" = some (.ref f1)) :
    FnOk P w K mg base CX0 2 f fd ["_law_one"] (spB winB) := by
  refine F.ok scLW (fun vs H Q E h => ?_) (fun cdv A outer s H vs Q E hr h => ?_)
  · obtain ⟨v, d, rfl, _⟩ := h
    rfl
  · obtain ⟨v, d, rfl, hd, q⟩ := h
    refine ⟨_, pss_cons (ps_if (PW.pt (pw_or (pt_not (pt_val (pe_callB call_isi (by rfl) T.isi (by decide +kernel) (pa_cons (pv 0) (pa_cons (pe_bltn (v := .ty "tuple") (by rfl) T.tuple (by decide +kernel) rfl) pa_nil)))))
          (pw_or (pt_cmpR op_ne (pe_callB call_len_seq (by rfl) T.len PySem.boot_len (pa_cons (pv 0) pa_nil)) pe_int (nomark _))
            (pw_or1 (pt_not (pt_val (pe_call G1 hr (by rfl) g1 k1 b1 .nil pass0 (pa_cons (pe_ix ix_tup (pv 0) pe_int (fun _ _ => rfl)) pa_nil))))))))
        (pss_one (ps_ret pe_bl)) pss_nil)
      (pss_one (ps_ret (pe_or (pe_cmp (pc_isN (pe_ix ix_tup (pv 0) pe_int (fun _ _ => rfl)))) (pe_one (pe_and (pe_call G1 hr (by rfl) g1 k1 b1 .nil pass0 (pa_cons (pe_ix ix_tup (pv 0) pe_int (fun _ _ => rfl)) pa_nil))
        (pe_one (pe_cmpR op_ge (pe_ix ix_tup (pv 0) pe_int (fun _ _ => rfl)) (pe_ix ix_tup (pv 0) pe_int (fun _ _ => rfl)) (nomark _)))))))), ?_⟩
    have ty := hd.ty (K := K)
    refine ⟨_, rfl, _, _, _, _, _, rfl, .ty _, ty, kTuple d, _, rfl, ?_⟩
    cases hd with
    | @tup a xs ds h t =>
      refine iteF ?_
      refine ⟨_, rfl, a, _, rfl, .inr (SqT.of h), rfl, _, rfl, ?_⟩
      match xs, ds, t with
      | [x, y], [dx, dy], .cons hx (.cons hy .nil) =>
        refine iteF ?_
        refine ⟨_, rfl, a, _, _, _, rfl, rfl, SqT.of h, rfl, x, dx, rfl, hx, _, rfl, ?_⟩
        cases hb : verB dx with
        | false =>
          have e : winB (.tuple [dx, dy]) = false := by simp [winB, hb]
          rw [e] at q
          exact iteT q
        | true =>
          refine iteF ?_
          refine ⟨_, rfl, a, _, _, _, rfl, rfl, SqT.of h, rfl, _, rfl, ?_⟩
          cases hx with
          | int l =>
            cases hy with
            | non => exact iteT (by simpa [winB, hb, isNone] using q)
            | int z =>
              refine iteF ?_
              refine ⟨_, rfl, a, _, _, _, rfl, rfl, SqT.of h, rfl, _, _, rfl, .int z, _, rfl, ?_⟩
              cases hz : verB (.int z) with
              | false =>
                have e : winB (.tuple [.int l, .int z]) = false := by simp [winB, hz, isNone]
                rw [e] at q
                exact iteF q
              | true =>
                refine iteT ⟨_, rfl, a, _, _, _, rfl, rfl, SqT.of h, rfl, _, rfl, a, _, _, _, rfl, rfl, SqT.of h, rfl, _, _, rfl, rfl, ?_⟩
                have e : winB (.tuple [.int l, .int z]) = decide (z ≥ l) := by simp [winB, hb, hz, isNone, geB]
                rw [e] at q
                exact q
            | bl z => exact iteF ⟨_, rfl, a, _, _, _, rfl, rfl, SqT.of h, rfl, _, _, rfl, .bl z, _, rfl, iteF (by simpa [winB, verB, isNone] using q)⟩
            | str z => exact iteF ⟨_, rfl, a, _, _, _, rfl, rfl, SqT.of h, rfl, _, _, rfl, .str z, _, rfl, iteF (by simpa [winB, verB, isNone] using q)⟩
            | lst n2 h2 t2 => exact iteF ⟨_, rfl, a, _, _, _, rfl, rfl, SqT.of h, rfl, _, _, rfl, .lst n2 h2 t2, _, rfl, iteF (by simpa [winB, verB, isNone] using q)⟩
            | tup h2 t2 => exact iteF ⟨_, rfl, a, _, _, _, rfl, rfl, SqT.of h, rfl, _, _, rfl, .tup h2 t2, _, rfl, iteF (by simpa [winB, verB, isNone] using q)⟩
            | dic h2 t2 => exact iteF ⟨_, rfl, a, _, _, _, rfl, rfl, SqT.of h, rfl, _, _, rfl, .dic h2 t2, _, rfl, iteF (by simpa [winB, verB, isNone] using q)⟩
          | _ => simp [verB] at hb
      | [], [], .nil => exact iteT (iteT q)
      | [x], [dx], .cons hx .nil => exact iteT (iteT q)
      | x :: y :: z :: r, dx :: dy :: dz :: dr, .cons hx (.cons hy (.cons hz t)) =>
        have e : decide (V.int ((x :: y :: z :: r).length : Nat) = V.int 2) = false := by
          apply decide_eq_false
          intro z
          have := V.int.inj z
          simp only [List.length_cons] at this
          omega
        rw [e]
        exact iteT (iteT q)
    | int i => exact iteT (iteT q)
    | bl b => exact iteT (iteT q)
    | non => exact iteT (iteT q)
    | str i => exact iteT (iteT q)
    | lst n h t => exact iteT (iteT q)
    | dic h t => exact iteT (iteT q)
end
end N6
set_option maxHeartbeats 4000000
namespace G
open PySem PySem.Spec PyProof.Rows L2
/-- lists of different lengths -/
theorem op_neLen {X : Cx} (hu : X.A.units + 64 < cLine) : OpR X (compareOp .NotEq) (fun x y H Q => ∃ (a b : Addr) (xs ys : List V),
    x = .ref a ∧ y = .ref b ∧ SqL X.K H a xs ∧ SqL X.K H b ys ∧ xs.length ≠ ys.length ∧ Q (.bl true) H) := by
  intro pins s σ H x y v u Q I rx ry h
  obtain ⟨a, b, xs, ys, rfl, rfl, ha, hb, hl, q⟩ := h
  cases rx
  cases ry
  obtain ⟨is, r1, p1, _⟩ := I.list ha
  obtain ⟨js, r2, p2, _⟩ := I.list hb
  have l1 := r1.length
  have l2 := r2.length
  refine (SeqAt.RcNeAt.lists_lengths p1.isList p2.isList ?_ (by omega)) X.prog X.w X.xe _ ⟨.bl true, H, I, rfl, q⟩
  simp only [List.size_toArray, bne_iff_ne]
  omega
/-- a list and the empty one -/
theorem op_neNil {X : Cx} (hu : X.A.units + 64 < cLine) : OpR X (compareOp .NotEq) (fun x y H Q => ∃ (a b : Addr) (xs : List V),
    x = .ref a ∧ y = .ref b ∧ H a = some (.lst xs) ∧ H b = some (.lst []) ∧ Q (.bl (!xs.isEmpty)) H) := by
  intro pins s σ H x y v u Q I rx ry h
  obtain ⟨a, b, xs, rfl, rfl, ha, hb, q⟩ := h
  cases xs with
  | nil =>
    refine op_neD hu pins s σ H (.ref a) (.ref b) v u Q I rx ry ⟨.list [], .list [], .lst (SqL.of ha) .nil, .lst (SqL.of hb) .nil, by decide +kernel, by decide +kernel, ?_⟩
    have e : (!PyData.eqv (.list []) (.list [])) = false := by decide +kernel
    rw [e]
    exact q
  | cons z zs => exact op_neLen hu pins s σ H (.ref a) (.ref b) v u Q I rx ry ⟨a, b, _, _, rfl, rfl, SqL.of ha, SqL.of hb, by simp, q⟩
theorem da_get {H : Hp} : ∀ {xs : List V} {ds : List PyData} {i : Nat} {x : V}, DaAll H xs ds → xs[i]? = some x → ∃ d, ds[i]? = some d ∧ Da H x d
  | _, _, _, _, .nil, e => by simp at e
  | _, _, 0, _, .cons h _, e => by
    simp at e
    subst e
    exact ⟨_, rfl, h⟩
  | _, _, i + 1, x, .cons _ t, e => by
    obtain ⟨d, h1, h2⟩ := da_get (i := i) t (by simpa using e)
    exact ⟨d, by simpa using h1, h2⟩
theorem da_at {H : Hp} {xs : List V} {ds : List PyData} {i : Nat} {d : PyData} (h : DaAll H xs ds) (e : ds[i]? = some d) : ∃ x, xs[i]? = some x ∧ Da H x d := by
  have hl := h.len
  have hi : i < ds.length := by
    by_cases q : i < ds.length
    · exact q
    · rw [List.getElem?_eq_none (by omega)] at e
      cases e
  have hx : xs[i]? = some xs[i] := by simp
  obtain ⟨d', h1, h2⟩ := da_get h hx
  rw [e] at h1
  cases h1
  exact ⟨_, hx, h2⟩
end G
namespace N6
open PySem PySem.Spec PyProof.Rows L2 G N4
def optD : PyData → Option Int
  | .int h => some h
  | _ => none
def conD : PyData → PyData → Bool
  | .tuple [.int l, h], .int x => contW (l, optD h) x
  | _, _ => false
def risD : PyData → PyData → Bool
  | .tuple [.int l, h], .tuple [.int l2, h2] => risW (l, optD h) (l2, optD h2)
  | _, _ => false
theorem opt_hD : ∀ o : Option Int, optD (hD o) = o
  | none => rfl
  | some _ => rfl
theorem con_wD (w : Wn) (x : Int) : conD (wD w) (.int x) = contW w x := by
  show contW (w.1, optD (hD w.2)) x = _
  rw [opt_hD]
theorem ris_wD (a b : Wn) : risD (wD a) (wD b) = risW a b := by
  show risW (a.1, optD (hD a.2)) (b.1, optD (hD b.2)) = _
  rw [opt_hD, opt_hD]
/-! ### the first place at which a list of truths is true -/
def at' (bs : List Bool) (k : Nat) : Bool := bs.getD k false
def fIdx (bs : List Bool) : Option Nat := (List.range bs.length).find? (at' bs)
theorem fIdx_some {bs : List Bool} {i : Nat} (h : at' bs i = true) (n : ∀ j < i, at' bs j = false) : fIdx bs = some i := by
  have hi : i < bs.length := by
    by_cases q : i < bs.length
    · exact q
    · rw [at', List.getD_eq_getElem?_getD, List.getElem?_eq_none (by omega)] at h
      cases h
  unfold fIdx
  rw [List.find?_range_eq_some]
  exact ⟨h, by simp [hi], fun j hj => by simp [n j hj]⟩
theorem fIdx_none {bs : List Bool} (n : ∀ j < bs.length, at' bs j = false) : fIdx bs = none := by
  unfold fIdx
  rw [List.find?_eq_none]
  intro j hj
  simp [n j (List.mem_range.mp hj)]
def fV : Option Nat → V
  | none => .non
  | some n => .int n
def fD : Option Nat → PyData
  | none => .none
  | some n => .int n
theorem fDa {H : Hp} : ∀ o : Option Nat, Da H (fV o) (fD o)
  | none => .non
  | some _ => .int _
/-- where a window falls -/
def falD (ds : List PyData) : List Bool := (ds.zip ds.tail).map fun p => !risD p.1 p.2
def firstFall (ds : List PyData) : Option Nat := (fIdx (falD ds)).map (· + 1)
theorem fal_len (ds : List PyData) : (falD ds).length = ds.length - 1 := by simp [falD]
theorem fal_at {ds : List PyData} {j : Nat} {x y : PyData} (h1 : ds[j]? = some x) (h2 : ds[j + 1]? = some y) : at' (falD ds) j = !risD x y := by
  have e : (ds.zip ds.tail)[j]? = some (x, y) := by
    rw [List.getElem?_zip_eq_some]
    refine ⟨h1, ?_⟩
    rw [List.getElem?_tail]
    exact h2
  unfold at' falD
  rw [List.getD_eq_getElem?_getD, List.getElem?_map, e]
  rfl
/-- the first that is no window -/
def Bad (ds : List PyData) (i : Nat) : Prop := (∃ x, ds[i]? = some x ∧ winB x = false) ∧ ∀ j < i, ∀ x, ds[j]? = some x → winB x = true
/-- data, or a list of data at any place -/
def DaL (H : Hp) (v : V) (d : PyData) : Prop := Da H v d ∨ ∃ (a : Addr) (xs : List V) (ds : List PyData), v = .ref a ∧ d = .list ds ∧ H a = some (.lst xs) ∧ DaAll H xs ds
theorem DaL.split {H : Hp} {v : V} {d : PyData} (h : DaL H v d) : isList d = false ∨ ∃ (a : Addr) (xs : List V) (ds : List PyData), v = .ref a ∧ d = .list ds ∧ H a = some (.lst xs) ∧ DaAll H xs ds := by
  rcases h with h | h
  · cases h with
    | lst n e t => exact .inr ⟨_, _, _, rfl, rfl, e, t⟩
    | _ => exact .inl rfl
  · exact .inr h
theorem DaL.list {H : Hp} {v : V} {ds : List PyData} (h : DaL H v (.list ds)) : ∃ (a : Addr) (xs : List V), v = .ref a ∧ H a = some (.lst xs) ∧ DaAll H xs ds := by
  rcases h.split with h | ⟨a, xs, ds', rfl, e, h1, h2⟩
  · cases h
  · cases e
    exact ⟨a, xs, rfl, h1, h2⟩
theorem DaL.mono {H H' : Hp} (e : Same H H') {v : V} {d : PyData} (h : DaL H v d) : DaL H' v d := by
  rcases h with h | ⟨a, xs, ds, e1, e2, h1, h2⟩
  · exact .inl (h.mono e)
  · exact .inr ⟨a, xs, ds, e1, e2, e _ _ h1, h2.mono e⟩
theorem DaL.monoN {H H' : Hp} (e : LamX.ExtN H H') {v : V} {d : PyData} (h : DaL H v d) : DaL H' v d := by
  rcases h with h | ⟨a, xs, ds, e1, e2, h1, h2⟩
  · exact .inl (h.monoN e)
  · exact .inr ⟨a, xs, ds, e1, e2, e _ _ h1 ntL, h2.monoN e⟩
theorem DaL.ty {K : PySem.W.Frag} {H : Hp} {v : V} {d : PyData} (h : DaL H v d) : TyX K H v (.type (tyD d)) := by
  rcases h with h | ⟨a, xs, ds, rfl, rfl, h1, h2⟩
  · exact h.ty
  · exact .base (.lst h1)
def spReqWs (CS : Addr) : Sp := fun vs H Q E => ∃ (v : V) (d : PyData), vs = [v] ∧ DaL H v d ∧ (isList d = false → Err E CS "position" .non H) ∧
  ∀ ds, d = .list ds → (∀ i, Bad ds i → ∀ H', Same H H' → Err E CS "position" (.int i) H') ∧ ((∀ x ∈ ds, winB x = true) → ∀ H', Same H H' → Q .non H')
def spFall (CS : Addr) : Sp := fun vs H Q E => ∃ (v : V) (d : PyData), vs = [v] ∧ DaL H v d ∧ (isList d = false → Err E CS "position" .non H) ∧
  ∀ ds, d = .list ds → ds.length ≤ 1000 ∧ (∀ i, Bad ds i → ∀ H', Same H H' → Err E CS "position" (.int i) H') ∧ ((∀ x ∈ ds, winB x = true) → ∀ H', Same H H' → Q (fV (firstFall ds)) H')
def spLeast (CS CV : Addr) : Sp := fun vs H Q E => ∃ (v u : V) (d e : PyData), vs = [v, u] ∧ DaL H v d ∧ Da H u e ∧ (isList d = false → Err E CS "position" .non H) ∧
  ∀ ds, d = .list ds → ds.length ≤ 1000 ∧ (∀ i, Bad ds i → ∀ H', Same H H' → Err E CS "position" (.int i) H') ∧
    ((∀ x ∈ ds, winB x = true) → (∀ p, firstFall ds = some p → ∀ H', Same H H' → Err E CS "position" (.int (p : Nat)) H') ∧
      (firstFall ds = none → (verB e = false → ∀ H', Same H H' → Err E CV "value" u H') ∧
        (verB e = true → ∀ (o : Option Nat) H', Same H H' → (∀ n, o = some n → n ≤ 1000) → Q (fV o) H')))
section
variable {P : Program} {w : World} {K : PySem.W.Frag} {mg : Str → Option Value} {base : Heap}
theorem scRS : FnScope ["value", "position", "item"] ["value"] (defScope sReqWins) :=
  ⟨rfl, rfl, rfl, by decide +kernel, rfl, by decide +kernel, by decide +kernel⟩
theorem ok_reqws {f f1 CS : Addr} {fd fd1 : FuncData} (F : Fun K "require_windows" "require_windows" sReqWins f fd) (T : Txt mg)
    (G1 : FnOk P w K mg base CX0 2 f1 fd1 ["value"] (spB winB)) (k1 : PySem.W.keepIn K (.ref f1) = true) (b1 : Binds K fd1 ["value"] []) (g1 : mg "is_window" = some (.ref f1))
    (TS : XCls P w K mg base "InvalidWindows" CS "position" "position") :
    FnOk P w K mg base (L2.CX P w) 3 f fd ["value"] (spReqWs CS) := by
  refine F.okX scRS (fun vs H Q E h => ?_) (fun cdv A outer s H vs Q E hr h => ?_)
  · obtain ⟨v, d, rfl, _⟩ := h
    rfl
  · obtain ⟨v, d, rfl, hd, q0, q1⟩ := h
    refine ⟨_, pss_cons (ps_if (pt_not (pt_val (pe_callB call_isi (by rfl) T.isi (by decide +kernel) (pa_cons (pv 0) (pa_cons (pe_bltn (v := .ty "list") (by rfl) T.list (by decide +kernel) rfl) pa_nil))))) (pss_one (ps_raiseC rfl TS hr (takes_of rfl rfl rfl rfl) (by rfl) pe_non)) pss_nil)
      (pss_one (ps_for (passes_of rfl) rfl (pi_enum (by rfl) T.enumerate (pa_cons (pv 0) pa_nil)) (pg_tup rfl (pgs_cons (pg_name (i := 1) scRS.nd rfl (Or.inl rfl)) (pgs_cons (pg_name (i := 2) scRS.nd rfl (Or.inl rfl)) pgs_nil)))
        (pss_one (ps_if (pt_not (pt_val (pe_call G1 hr (by rfl) g1 k1 b1 .nil pass0 (pa_cons (pv 2) pa_nil)))) (pss_one (ps_raiseC rfl TS hr (takes_of rfl rfl rfl rfl) (by rfl) (pv 1))) pss_nil)))), ?_⟩
    have ty := hd.ty (K := K)
    refine ⟨_, rfl, _, _, _, _, _, rfl, .ty _, ty, kList d, _, rfl, ?_⟩
    rcases hd.split with hl | ⟨a, xs, ds, rfl, rfl, h, t⟩
    · rw [hl]
      exact iteT (made_go (q0 hl))
    · skip
      obtain ⟨qb, qa⟩ := q1 ds rfl
      refine iteF ⟨_, rfl, a, _, rfl, SqL.of h, ?_⟩
      refine for_it walk_enum (fun i σ J => ∃ c1 c2, σ = [some (.ref a), c1, c2] ∧ Same H J ∧ ∀ j < i, ∀ x, ds[j]? = some x → winB x = true) ⟨_, _, rfl, Same.refl _, fun _ z => absurd z (Nat.not_lt_zero _)⟩ (fun i σ J _ ⟨_, _, _, e, _⟩ => SqL.of (e _ _ h)) ?_ ?_
      · rintro i x σ J J' hi ⟨c1, c2, rfl, e, inv⟩ ⟨tt, z, y, rfl, ht, rfl, hz, hy⟩
        obtain rfl : z = .int (i : Nat) := (Option.some.inj hz).symm
        obtain ⟨dy, g1', g2'⟩ := da_get t hy
        refine ⟨tt, _, rfl, SqT.of upd_same, rfl, _, _, rfl, _, _, rfl, rfl, ?_⟩
        have e2 := e.trans (new_same (o := .tup [.int (i : Nat), y]) ht)
        refine ⟨_, rfl, y, dy, rfl, g2'.mono e2, _, rfl, ?_⟩
        cases hb : winB dy with
        | false => exact iteT ⟨_, rfl, made_go (qb i ⟨⟨dy, g1', hb⟩, inv⟩ _ e2)⟩
        | true =>
          refine iteF ⟨_, _, rfl, e2, fun j hj x hx => ?_⟩
          by_cases hj2 : j < i
          · exact inv j hj2 x hx
          · rw [show j = i by omega, g1'] at hx
            cases hx
            exact hb
      · rintro σ J ⟨c1, c2, rfl, e, inv⟩
        refine qa (fun x hx => ?_) J e
        obtain ⟨j, hj⟩ := List.getElem?_of_mem hx
        have hjl : j < ds.length := by
          by_cases q : j < ds.length
          · exact q
          · rw [List.getElem?_eq_none (by omega)] at hj
            cases hj
        exact inv j (by rw [t.len]; exact hjl) x hj

theorem scF : FnScope ["windows", "position"] ["windows"] (defScope sFall) :=
  ⟨rfl, rfl, rfl, by decide +kernel, rfl, by decide +kernel, by decide +kernel⟩
theorem ok_fall {f f1 f2 CS CW : Addr} {fd fd1 fd2 : FuncData} (F : Fun K "first_falling" "first_falling" sFall f fd) (T : Txt mg)
    (G1 : FnOk P w K mg base (L2.CX P w) 3 f1 fd1 ["value"] (spReqWs CS)) (k1 : PySem.W.keepIn K (.ref f1) = true) (b1 : Binds K fd1 ["value"] []) (g1 : mg "require_windows" = some (.ref f1))
    (G2 : FnOk P w K mg base (L2.CX P w) 4 f2 fd2 ["first", "second"] (spRises CW)) (k2 : PySem.W.keepIn K (.ref f2) = true) (b2 : Binds K fd2 ["first", "second"] []) (g2 : mg "rises" = some (.ref f2)) :
    FnOk P w K mg base (L2.CX P w) 5 f fd ["windows"] (spFall CS) := by
  refine F.okX scF (fun vs H Q E h => ?_) (fun cdv A outer s H vs Q E hr h => ?_)
  · obtain ⟨v, d, rfl, _⟩ := h
    rfl
  · obtain ⟨v, d, rfl, hd, q0, q1⟩ := h
    have hr3 : Room 3 _ := hr.mono (by decide)
    refine ⟨_, pss_cons (ps_expr (pe_call G1 hr3 (by rfl) g1 k1 b1 .nil (passes_call (E := E) (takes_of rfl rfl rfl rfl) (fun _ _ _ _ h => h)) (pa_cons (pv 0) pa_nil)))
      (pss_cons (ps_for (passes_of rfl) rfl (pi_range2 (by rfl) T.range (pa_cons pe_int (pa_cons (pe_callB call_len_seq (by rfl) T.len PySem.boot_len (pa_cons (pv 0) pa_nil)) pa_nil))) (pg_name (i := 1) scF.nd rfl (Or.inl rfl))
        (pss_one (ps_if (pt_not (pt_val (pe_call G2 hr (by rfl) g2 k2 b2 .nil (passes_call (E := E) (takes_of rfl rfl rfl rfl) (fun _ _ _ _ h => h)) (pa_cons (pe_ix ix_list (pv 0) (pe_op op_sub (pv 1) pe_int) (fun _ _ => rfl)) (pa_cons (pe_ix ix_list (pv 0) (pv 1) (fun _ _ => rfl)) pa_nil))))) (pss_one (ps_ret (pv 1))) pss_nil)))
      (pss_one (ps_ret pe_non))), ?_⟩
    refine ⟨_, rfl, v, d, rfl, hd, q0, fun ds ed => ?_⟩
    obtain ⟨hl, qb, qa⟩ := q1 ds ed
    refine ⟨qb, fun all H1 S1 => ?_⟩
    have qf := qa all
    subst ed
    obtain ⟨a, xs, rfl, h, t⟩ := hd.list
    have hx : xs.length = ds.length := t.len
    refine ⟨_, rfl, a, _, rfl, .inl (SqL.of (S1 _ _ h)), _, _, rfl, ⟨by decide, by decide, by omega, by omega⟩, ?_⟩
    refine for_range (lo := 1) (n := ((xs.length : Int) - 1).toNat) (fun i σ J => ∃ c1, σ = [some (.ref a), c1] ∧ Same H J ∧ ∀ j < i, at' (falD ds) j = false) ⟨_, rfl, S1, fun _ z => absurd z (Nat.not_lt_zero _)⟩ ?_ ?_
    · rintro i σ J hi ⟨c1, rfl, e, inv⟩
      have i1 : i + 1 < ds.length := by omega
      have ea : ds[i]? = some ds[i] := by simp
      have eb : ds[i + 1]? = some ds[i + 1] := by simp [i1]
      obtain ⟨x, xa, da⟩ := da_at t ea
      obtain ⟨y, yb, db⟩ := da_at t eb
      have wa : winB ds[i] = true := all _ (List.getElem_mem _)
      have wb : winB ds[i + 1] = true := all _ (List.getElem_mem _)
      refine ⟨_, rfl, _, rfl, _, _, rfl, rfl, a, _, _, x, rfl, rfl, SqL.of (e _ _ h), at_in (by omega) (by rw [show ((1 + (i : Int)) - 1).toNat = i by omega]; exact xa), ?_⟩
      refine ⟨_, rfl, _, rfl, a, _, _, y, rfl, rfl, SqL.of (e _ _ h), at_in (by omega) (by rw [show (1 + (i : Int)).toNat = i + 1 by omega]; exact yb), ?_⟩
      refine ⟨x, y, _, _, rfl, da.mono e, db.mono e, fun ww uu _ _ ew eu => ?_, (fun z => by rw [wa] at z; cases z), (fun _ z => by rw [wb] at z; cases z)⟩
      have fa := fal_at ea eb
      rw [ew, eu, ris_wD] at fa
      refine ⟨_, rfl, ?_⟩
      cases hb : risW ww uu with
      | true =>
        refine iteF ⟨_, rfl, e, fun j hj => ?_⟩
        by_cases hj2 : j < i
        · exact inv j hj2
        · rw [show j = i by omega, fa, hb]
          rfl
      | false =>
        refine iteT ⟨_, rfl, ?_⟩
        have e2 : firstFall ds = some (i + 1) := by
          unfold firstFall
          rw [fIdx_some (i := i) (by rw [fa, hb]; rfl) inv]
          rfl
        have q2 := qf J e
        rw [e2] at q2
        have e3 : (1 + (i : Int)) = ((i + 1 : Nat) : Int) := by omega
        show Q (.int (1 + (i : Int))) J
        rw [e3]
        exact q2
    · rintro σ J ⟨c1, rfl, e, inv⟩
      have e2 : firstFall ds = none := by
        unfold firstFall
        rw [fIdx_none fun j hj => inv j (by rw [fal_len] at hj; omega)]
        rfl
      have q2 := qf J e
      rw [e2] at q2
      exact q2

theorem scE : FnScope ["windows", "version", "falling", "position", "window"] ["windows", "version"] (defScope sLeast) :=
  ⟨rfl, rfl, rfl, by decide +kernel, rfl, by decide +kernel, by decide +kernel⟩
theorem ok_least {f f1 f2 f3 CS CV : Addr} {fd fd1 fd2 fd3 : FuncData} (F : Fun K "least_reaching" "least_reaching" sLeast f fd) (T : Txt mg)
    (G1 : FnOk P w K mg base (L2.CX P w) 5 f1 fd1 ["windows"] (spFall CS)) (k1 : PySem.W.keepIn K (.ref f1) = true) (b1 : Binds K fd1 ["windows"] []) (g1 : mg "first_falling" = some (.ref f1))
    (G2 : FnOk P w K mg base (L2.CX P w) 3 f2 fd2 ["value"] (spReqX verB CV)) (k2 : PySem.W.keepIn K (.ref f2) = true) (b2 : Binds K fd2 ["value"] []) (g2 : mg "require_version" = some (.ref f2))
    (G3 : FnOk P w K mg base CX0 1 f3 fd3 ["high", "version"] spReach) (k3 : PySem.W.keepIn K (.ref f3) = true) (b3 : Binds K fd3 ["high", "version"] []) (g3 : mg "reaches" = some (.ref f3))
    (TS : XCls P w K mg base "InvalidWindows" CS "position" "position") :
    FnOk P w K mg base (L2.CX P w) 6 f fd ["windows", "version"] (spLeast CS CV) := by
  refine F.okX scE (fun vs H Q E h => ?_) (fun cdv A outer s H vs Q E hr h => ?_)
  · obtain ⟨v, u, d, e, rfl, _⟩ := h
    rfl
  · obtain ⟨v, u, d, ee, rfl, hd, he, q0, q1⟩ := h
    have hr2 : Room 2 _ := hr.mono (by decide)
    have hr3 : Room 3 _ := hr.mono (by decide)
    have hr1 : Room 1 _ := hr.mono (by decide)
    refine ⟨_, pss_cons (ps_set (i := 2) scE.nd rfl (Or.inl rfl) (pe_call G1 hr (by rfl) g1 k1 b1 .nil (passes_call (E := E) (takes_of rfl rfl rfl rfl) (fun _ _ _ _ h => h)) (pa_cons (pv 0) pa_nil)))
      (pss_cons (ps_if (pt_cmp (pc_notN (pv 2))) (pss_one (ps_raiseC rfl TS hr2 (takes_of rfl rfl rfl rfl) (by rfl) (pv 2))) pss_nil)
      (pss_cons (ps_expr (pe_call G2 hr3 (by rfl) g2 k2 b2 .nil (passes_call (E := E) (takes_of rfl rfl rfl rfl) (fun _ _ _ _ h => h)) (pa_cons (pv 1) pa_nil)))
      (pss_cons (ps_for (passes_of rfl) rfl (pi_enum (by rfl) T.enumerate (pa_cons (pv 0) pa_nil)) (pg_tup rfl (pgs_cons (pg_name (i := 3) scE.nd rfl (Or.inl rfl)) (pgs_cons (pg_name (i := 4) scE.nd rfl (Or.inl rfl)) pgs_nil)))
        (pss_one (ps_if (pt_val (pe_call G3 hr1 (by rfl) g3 k3 b3 .nil pass0 (pa_cons (pe_ix ix_tup (pv 4) pe_int (fun _ _ => rfl)) (pa_cons (pv 1) pa_nil)))) (pss_one (ps_ret (pv 3))) pss_nil)))
      (pss_one (ps_ret pe_non))))), ?_⟩
    refine ⟨_, rfl, v, d, rfl, hd, q0, fun ds ed => ?_⟩
    obtain ⟨hl, qb, qa⟩ := q1 ds ed
    refine ⟨hl, qb, fun all H1 S1 => ?_⟩
    obtain ⟨qf, qn⟩ := qa all
    subst ed
    obtain ⟨a, xs, rfl, h, t⟩ := hd.list
    cases hf : firstFall ds with
    | some p =>
      refine ⟨_, rfl, _, rfl, iteT ⟨_, rfl, made_go (qf p hf H1 S1)⟩⟩
    | none =>
      obtain ⟨qv, qo⟩ := qn hf
      refine ⟨_, rfl, _, rfl, iteF ?_⟩
      refine ⟨_, rfl, u, ee, rfl, he.mono S1, fun hv => ?_, fun hv => qv hv H1 S1⟩
      have qq := qo hv
      obtain ⟨x, rfl, x0⟩ := verB_inv hv
      cases he
      refine ⟨_, rfl, a, _, rfl, SqL.of (S1 _ _ h), ?_⟩
      refine for_it walk_enum (fun i σ J => ∃ c1 c2, σ = [some (.ref a), some (.int x), some .non, c1, c2] ∧ Same H J)
        ⟨_, _, rfl, S1⟩ (fun i σ J _ ⟨_, _, _, e⟩ => SqL.of (e _ _ h)) ?_ ?_
      · rintro i y σ J J' hi ⟨c1, c2, rfl, e⟩ ⟨tt, z, y, rfl, ht, rfl, hz, hy⟩
        obtain rfl : z = .int (i : Nat) := (Option.some.inj hz).symm
        obtain ⟨dy, g1', g2'⟩ := da_get t hy
        obtain ⟨ww, rfl, w0, w1⟩ := winB_inv (all dy (List.mem_of_getElem? g1'))
        obtain ⟨tw, rfl, hw⟩ := win_at g2'
        refine ⟨tt, _, rfl, SqT.of upd_same, rfl, _, _, rfl, _, _, rfl, rfl, ?_⟩
        have e2 := e.trans (new_same (o := .tup [.int (i : Nat), .ref tw]) ht)
        refine ⟨_, rfl, tw, _, _, _, rfl, rfl, SqT.of (e2 _ _ hw), rfl, _, rfl, ww.2, x, rfl, _, rfl, ?_⟩
        cases hb : reach ww.2 x with
        | false => exact iteF ⟨_, _, rfl, e2⟩
        | true =>
          refine iteT ⟨_, rfl, ?_⟩
          exact qq (some i) _ e2 fun n en => by
            cases en
            have := t.len
            omega
      · rintro σ J ⟨c1, c2, rfl, e⟩
        exact qq none J e fun n en => by cases en
end
end N6
set_option maxHeartbeats 4000000
namespace N6
open PySem PySem.Spec PyProof.Rows L2 G N4
theorem merge1 (k : Key) (v : V) : mergeK [] [(k, v)] = [(k, v)] := rfl
theorem mk {H : Hp} {p : Addr} {o : HO} (h : H p = none) : ∃ J : Hp, upd H p o = J ∧ Same H J ∧ J p = some o := ⟨_, rfl, new_same h, upd_same⟩
def numO (z : Str) : Option Int := if canon z = true then some (val z) else none
def spNumb : Sp := fun vs H Q _ => ∃ z : Str, vs = [.str z] ∧ TOk 600 z ∧ ∀ H', Same H H' → Q (hV (numO z)) H'
def spRead : Sp := fun vs H Q _ => ∃ z : Str, vs = [.str z] ∧ TOk 600 z ∧ (∀ H', Same H H' → readW z = none → Q .non H') ∧
  ∀ w t H', Same H H' → readW z = some w → WinAt H' t w → Q (.ref t) H'
/-- the highs of windows are small -/
def hiB : PyData → Bool
  | .tuple [_, .int h] => decide (h < 10 ^ 64)
  | _ => true
def Od (d : PyData) : Prop := Ok3 80 3 d ∧ hiB d = true
theorem od_by {d : PyData} (h : (ok3B 80 3 d && hiB d) = true) : Od d := by
  rw [Bool.and_eq_true] at h
  exact ⟨ok3_by h.1, h.2⟩
/-- what stands at places that are new -/
def offs (H J : Hp) : Hp := fun q => if H q = none then J q else none
theorem offs_get {H J : Hp} {q : Addr} {o : HO} (n : H q = none) (h : J q = some o) : offs H J q = some o := by unfold offs; rw [if_pos n]; exact h
theorem offs_inv {H J : Hp} {q : Addr} {o : HO} (h : offs H J q = some o) : H q = none ∧ J q = some o := by
  unfold offs at h
  split at h
  · exact ⟨by assumption, h⟩
  · cases h
theorem offs_same {H J J' : Hp} (s : Same J J') : Same (offs H J) (offs H J') := fun q o h => offs_get (offs_inv h).1 (s _ _ (offs_inv h).2)
theorem offs_ext {r : Addr} {H J J' : Hp} (R : Rng H r) (e : Ext r J J') : Same (offs H J) (offs H J') := fun q o h => by
  obtain ⟨n, h2⟩ := offs_inv h
  obtain ⟨a, b, hr, _⟩ := R
  exact offs_get n (e _ _ (fun z => by rw [z, hr] at n; cases n) h2)
theorem offs_hide {r : Addr} {H J : Hp} (R : Rng H r) : Same (offs H J) (hide r J) := fun q o h => by
  obtain ⟨n, h2⟩ := offs_inv h
  obtain ⟨a, b, hr, _⟩ := R
  exact hide_get (fun z => by rw [z, hr] at n; cases n) h2
/-- the drawn numbers, and all that was ahead -/
def RS (H : Hp) (r : Addr) (J : Hp) : Prop := Rng J r ∧ Same H J
theorem stpO {H J : Hp} {r p : Addr} {o : HO} (R : RS H r J) (h : J p = none) : ∃ J' : Hp, upd J p o = J' ∧
    Same J J' ∧ Same (offs H J) (offs H J') ∧ RS H r J' ∧ J' p = some o ∧ offs H J' p = some o :=
  ⟨_, rfl, new_same h, offs_same (new_same h), ⟨R.1.new h, R.2.trans (new_same h)⟩, upd_same, offs_get (R.2.free h) upd_same⟩
def spOdd : Sp := fun vs H Q _ => ∃ r : Addr, vs = [.ref r] ∧ Rng H r ∧
  ∀ (v : V) (d : PyData) (H' : Hp), Ext r H H' → Rng H' r → Da (offs H H') v d → Od d → Q v H'
def topI (w : Wn) : Int := match w.2 with
  | none => 10 ^ (64 : Int).toNat
  | some x => x
def spTop : Sp := fun vs H Q _ => ∃ (t : Addr) (w : Wn), vs = [.ref t] ∧ WinAt H t w ∧ Q (.int (topI w)) H
def spChS : Sp := fun vs H Q _ => ∃ (r : Addr) (z : Str), vs = [.ref r, .str z] ∧ Rng H r ∧ 0 < z.length ∧ z.length ≤ 1000 ∧
  ∀ (c : Nat) (H' : Hp), Ext r H H' → Rng H' r → c ∈ z.cps.toList → Q (.str ⟨#[c]⟩) H'
theorem TOk.app {n m : Nat} {a b : Str} (x : TOk n a) (y : TOk m b) : TOk (n + m) (a ++ b) := by
  refine ⟨by rw [strLen_append]; exact Nat.add_le_add x.1 y.1, fun c hc => ?_⟩
  have e : (a ++ b).cps.toList = a.cps.toList ++ b.cps.toList := TL.tl_append a b
  rw [e] at hc
  exact (List.mem_append.mp hc).elim (x.2 c) (y.2 c)
theorem TOk.mono {n m : Nat} {a : Str} (x : TOk n a) (h : n ≤ m) : TOk m a := ⟨Nat.le_trans x.1 h, x.2⟩
theorem cut_mem {a : Str} {lo hi : Option Int} {c : Nat} (hc : c ∈ (cutS a lo hi).cps.toList) : c ∈ a.cps.toList := by
  have h : c ∈ (a.cps.toList.drop (HT.sIx a.length 0 lo)).take (HT.sIx a.length a.length hi - HT.sIx a.length 0 lo) := by
    simpa [cutS] using hc
  exact List.mem_of_mem_drop (List.mem_of_mem_take h)
theorem cut_len (a : Str) (lo hi : Option Int) : (cutS a lo hi).length ≤ a.length := by
  show (List.toArray _).size ≤ _
  rw [List.size_toArray, List.length_take, List.length_drop]
  have e2 : a.cps.toList.length = a.length := by simp [Str.length]
  omega
theorem TOk.cut {n : Nat} {a : Str} (x : TOk n a) (lo hi : Option Int) : TOk n (cutS a lo hi) :=
  ⟨Nat.le_trans (cut_len a lo hi) x.1, fun c hc => x.2 c (cut_mem hc)⟩
theorem TOk.one {c : Nat} (h : c < 1114112) : TOk 1 ⟨#[c]⟩ := ⟨Nat.le_refl _, fun d hd => by
  have e : d = c := by simpa using hd
  rw [e]
  exact h⟩
theorem cut_split (z : Str) (i : Nat) : (cutS z none (some (i : Int))).length + (cutS z (some (i : Int)) none).length ≤ z.length := by
  show (List.toArray _).size + (List.toArray _).size ≤ _
  rw [List.size_toArray, List.size_toArray, List.length_take, List.length_drop, List.length_take, List.length_drop, HT.sIx_none, HT.sIx_nat, HT.sIx_none]
  have e2 : z.cps.toList.length = z.length := by simp [Str.length]
  rw [HT.sIx_nat]
  omega
theorem cut_drop (z : Str) (i : Nat) : (cutS z none (some (i : Int))).length + (cutS z (some ((i : Int) + 1)) none).length ≤ z.length := by
  show (List.toArray _).size + (List.toArray _).size ≤ _
  rw [List.size_toArray, List.size_toArray, List.length_take, List.length_drop, List.length_take, List.length_drop, HT.sIx_none, HT.sIx_nat, HT.sIx_none]
  have e2 : z.cps.toList.length = z.length := by simp [Str.length]
  rw [show ((i : Int) + 1) = ((i + 1 : Nat) : Int) by omega, HT.sIx_nat]
  omega
theorem numO_rw {z : Str} (h : canon z = true) : numO z = some (val z) := by unfold numO; rw [if_pos h]
theorem numO_no {z : Str} (h : canon z = false) : numO z = none := by unfold numO; rw [h]; rfl
section
variable {P : Program} {w : World} {K : PySem.W.Frag} {mg : Str → Option Value} {base : Heap}
theorem scNu : FnScope ["_law_word", "_law_sign"] ["_law_word"] (defScope sNumb) :=
  ⟨rfl, rfl, rfl, by decide +kernel, rfl, by decide +kernel, by decide +kernel⟩
def ndig (c : Nat) : Bool := !decide (c ∈ DIG.cps.toList)
theorem dpStr {K : PySem.W.Frag} {H : Hp} : ∀ l : List Nat,
    DpAll K H (l.map fun c => V.str ⟨#[c]⟩) (l.map fun c => PyData.str ⟨#[c]⟩)
  | [] => .nil
  | c :: l => .cons (.str _) (dpStr l)
theorem shStr : ∀ l : List Nat, (∀ c ∈ l, c < 1114112) → PyData.canLayAll0 (l.map fun c => PyData.str ⟨#[c]⟩) = true
  | [], _ => rfl
  | c :: l, h => by
    have h1 := h c (by simp)
    have h2 := shStr l fun x hx => h x (by simp [hx])
    simp [PyData.canLayAll0, PyData.canLay0, PyData.strOk, h2, h1]
theorem dpZero : ∀ l : List Nat, PyData.depthAll (l.map fun c => PyData.str ⟨#[c]⟩) = 0
  | [] => rfl
  | c :: l => by simp [PyData.depthAll, PyData.depth, dpZero l]
theorem eqvNil (l : List Nat) : PyData.eqv (.list (l.map fun c => PyData.str ⟨#[c]⟩)) (.list []) = l.isEmpty := by
  cases l <;> simp [PyData.eqv, PyData.eqvAll]
theorem filt (l : List Nat) : (l.filter ndig).isEmpty = l.all dig := by
  induction l with
  | nil => rfl
  | cons c l ih =>
    by_cases h : c ∈ DIG.cps.toList
    · have e1 : ndig c = false := by simp only [ndig, h, decide_true, Bool.not_true]
      have e2 : dig c = true := by simp only [dig, h, decide_true]
      rw [List.filter_cons_of_neg (by rw [e1]; decide), ih, List.all_cons, e2, Bool.true_and]
    · have e1 : ndig c = true := by simp only [ndig, h, decide_false, Bool.not_false]
      have e2 : dig c = false := by simp only [dig, h, decide_false]
      rw [List.filter_cons_of_pos e1, List.all_cons, e2, Bool.false_and]
      rfl
theorem ok_numb {f : Addr} {fd : FuncData} (F : Fun K "_law_number" "_law_number" sNumb f fd) (T : Txt mg) :
    FnOk P w K mg base CX0 1 f fd ["_law_word"] spNumb := by
  refine F.ok scNu (fun vs H Q E h => ?_) (fun cdv A outer s H vs Q E hr h => ?_)
  · obtain ⟨z, rfl, _⟩ := h
    rfl
  · obtain ⟨z, rfl, tz, q⟩ := h
    refine ⟨_, pss_cons (ps_if (PW.pt (pw_or (pt_cmpR op_eq (pv 0) pe_str (nomark _))
        (pw_or (pt_cmpR (op_neD hr.units) (pe_lc (own := [("_law_sign", 1)]) (g := gName 1) rfl scNu.nd (pi_str (pv 0)) (blkOk_by (own := [("_law_sign", 1)]) (N := ["_law_word", "_law_sign"]) (sc := defScope sNumb) (by decide +kernel))
            (fun _ _ _ _ _ => pg_name (i := 1) scNu.nd rfl (Or.inl rfl)) (fun _ _ _ _ _ => pts_one (pt_cmpR op_notIn_sign (pv 1) pe_str (by rfl))) (fun _ _ _ _ _ => pv 1)) (pe_lst pa_nil) (nomark _))
          (pw_or1 (PW.pt (pw_and (pt_cmpR op_eq (pe_ix ix_str (pv 0) pe_int (fun _ _ => rfl)) pe_str (nomark _)) (pw_and1 (pt_cmpR op_ne (pv 0) pe_str (nomark _)))))))))
        (pss_one (ps_ret pe_non)) pss_nil)
      (pss_one (ps_ret (pe_callTy call_int_str (by rfl) T.int (by decide +kernel) (pa_cons (pv 0) pa_nil)))), ?_⟩
    refine ⟨_, rfl, rfl, _, rfl, ?_⟩
    rw [dec_str]
    by_cases e0 : z = ""
    · rw [decide_eq_true e0]
      have e : canon z = false := by simp [canon, e0]
      have q0 := q H (Same.refl H)
      rw [numO_no e] at q0
      exact iteT (iteT q0)
    rw [decide_eq_false e0]
    refine iteF ?_
    refine ⟨_, rfl, z, rfl, fun D hD => lc_it walk_str
      (fun i J => Same H J ∧ J D = some (.lst (((z.cps.toList.take i).filter ndig).map fun c => V.str ⟨#[c]⟩)))
      ⟨new_same hD, upd_same⟩ (fun _ _ _ _ => trivial) ?_ ?_⟩
    · rintro i x J J' hi ⟨s1, l1⟩ ⟨rfl, c, hc, rfl⟩
      have hc' : z.cps.toList[i]? = some c := by simpa using hc
      refine ⟨rfl, _, rfl, c, _, rfl, rfl, _, rfl, ?_⟩
      refine ite2 (fun hn => ?_) (fun hn => ?_)
      · refine ⟨_, rfl, _, l1, ?_, ?_, ?_⟩
        · have e2 : z.cps.size ≤ 600 := tz.1
          have e3 := List.length_filter_le ndig (z.cps.toList.take i)
          have e4 : (z.cps.toList.take i).length ≤ z.cps.size := by simp; omega
          rw [List.length_map, sizeLine_eq]
          omega
        · intro b o e
          rw [upd_ne (ne_of_none e hD)]
          exact s1 b o e
        · rw [upd_same, take_next hc', List.filter_append, List.filter_cons_of_pos (show ndig c = true from hn), List.filter_nil, List.map_append]
          rfl
      · refine ⟨s1, ?_⟩
        rw [l1, take_next hc', List.filter_append, List.filter_cons_of_neg (show ¬ ndig c = true from hn), List.filter_nil, List.append_nil]
    · rintro J ⟨s1, l1⟩
      rw [List.take_of_length_le (by simp)] at l1
      refine ⟨Nat.zero_le _, fun p hp => ?_⟩
      have npD : D ≠ p := ne_of_none l1 hp
      refine ⟨_, _, .lst (SqL.of (by rw [upd_ne npD]; exact l1)) (dpStr _), .lst (SqL.of upd_same) .nil, ?_, by decide +kernel, _, rfl, ?_⟩
      · unfold PySem.SeqAt.shaped
        rw [Bool.and_eq_true]
        refine ⟨?_, decide_eq_true (by simp only [PyData.depth, dpZero]; decide)⟩
        simp only [PyData.canLay0]
        exact shStr _ fun c hc => tz.2 c (List.mem_filter.mp hc).1
      rw [eqvNil, filt]
      have q1 := q _ (s1.trans (new_same (o := .lst []) hp))
      cases hb : z.cps.toList.all dig with
      | false =>
        have e : canon z = false := by simp [canon, hb]
        rw [numO_no e] at q1
        exact iteT (iteT q1)
      | true =>
        refine iteF ?_
        obtain ⟨c, h1, h2⟩ := first_sign e0
        refine ⟨_, rfl, z, _, c, rfl, rfl, Nat.le_trans tz.1 (by decide), h2, rfl, _, rfl, ?_⟩
        rw [dec_str, sign0]
        by_cases e1 : c = 48
        · rw [decide_eq_true e1]
          refine iteT ⟨_, rfl, rfl, _, rfl, ?_⟩
          rw [dec_str]
          by_cases e2 : z = "0"
          · rw [decide_eq_true e2]
            have e : canon z = true := by
              unfold canon
              rw [decide_eq_false e0, hb, decide_eq_true e2]
              rfl
            rw [numO_rw e] at q1
            exact iteF ⟨_, rfl, _, _, rfl, canon_int e (Nat.le_trans tz.1 (by decide)), Nat.le_trans tz.1 (by decide), q1⟩
          · rw [decide_eq_false e2]
            have e : canon z = false := by
              unfold canon hd0
              rw [decide_eq_false e0, hb, decide_eq_false e2, h1, e1]
              simp
            rw [numO_no e] at q1
            exact iteT q1
        · rw [decide_eq_false e1]
          have e : canon z = true := by
            unfold canon hd0
            rw [decide_eq_false e0, hb, h1]
            simp [e1]
          rw [numO_rw e] at q1
          exact iteF (iteF ⟨_, rfl, _, _, rfl, canon_int e (Nat.le_trans tz.1 (by decide)), Nat.le_trans tz.1 (by decide), q1⟩)
theorem lt_dec (i : Nat) : decide (((i : Nat) : Int) < 0) = false := decide_eq_false (by omega)
theorem scRd : FnScope ["_law_text", "_law_at", "_law_low", "_law_high"] ["_law_text"] (defScope sRead) :=
  ⟨rfl, rfl, rfl, by decide +kernel, rfl, by decide +kernel, by decide +kernel⟩
theorem ok_read {f fN : Addr} {fd fdN : FuncData} (F : Fun K "_law_read" "_law_read" sRead f fd)
    (GN : FnOk P w K mg base CX0 1 fN fdN ["_law_word"] spNumb) (kN : PySem.W.keepIn K (.ref fN) = true) (bN : Binds K fdN ["_law_word"] []) (gN : mg "_law_number" = some (.ref fN)) :
    FnOk P w K mg base CX0 2 f fd ["_law_text"] spRead := by
  refine F.ok scRd (fun vs H Q E h => ?_) (fun cdv A outer s H vs Q E hrN h => ?_)
  · obtain ⟨z, rfl, _⟩ := h
    rfl
  · obtain ⟨z, rfl, tz, q1, q2⟩ := h
    refine ⟨_, pss_cons (ps_set (i := 1) scRd.nd rfl (Or.inl rfl) (pe_m1 PySem.F.slot_str_find PySem.F.type_str_find mt_find (pv 0) pe_str))
      (pss_cons (ps_if (pt_cmpR op_lt (pv 1) pe_int (nomark _)) (pss_one (ps_ret pe_non)) pss_nil)
      (pss_cons (ps_par (by rfl) scRd.nd (i := 2) (j := 3) rfl rfl (by decide) rfl rfl (pa_cons (pe_call GN hrN (by rfl) gN kN bN .nil pass0 (pa_cons (pe_slice sl_str (pv 0) po_none (po_some (pv 1))) pa_nil)) (pa_cons (pe_call GN hrN (by rfl) gN kN bN .nil pass0 (pa_cons (pe_slice sl_str (pv 0) (po_some (pe_op op_add (pv 1) pe_int)) po_none) pa_nil)) pa_nil)) (by rfl))
      (pss_cons (ps_if (PW.pt (pw_or (pt_cmp (pc_isN (pv 2))) (pw_or (PW.pt (pw_and (pt_cmp (pc_isN (pv 3))) (pw_and1 (pt_cmpR op_ne (pe_slice sl_str (pv 0) (po_some (pe_op op_add (pv 1) pe_int)) po_none) pe_str (nomark _)))))
          (pw_or1 (PW.pt (pw_and (pt_cmp (pc_notN (pv 3))) (pw_and1 (pt_cmpR op_lt (pv 3) (pv 2) (nomark _)))))))))
        (pss_one (ps_ret pe_non)) pss_nil)
      (pss_one (ps_ret (pe_tup (pa_cons (pv 2) (pa_cons (pv 3) pa_nil)))))))), ?_⟩
    have zl : z.length ≤ sizeLine := Nat.le_trans tz.1 (by decide)
    refine ⟨_, rfl, ⟨_, rfl⟩, z, DOT, rfl, rfl, ?_⟩
    refine ⟨_, rfl, _, _, rfl, rfl, _, rfl, ?_⟩
    rcases part_cases z with ⟨ef, es, _⟩ | ⟨i, ef, es, eb, ea, ez⟩
    · rw [ef]
      have e : readW z = none := by unfold readW; rw [if_pos (.inl es)]
      exact iteT (q1 H (Same.refl H) e)
    · rw [ef, lt_dec]
      refine iteF ?_
      have ns : ¬ (pS z = "") := by rw [es]; exact dot_ne
      refine ⟨_, rfl, _, rfl, _, rfl, z, rfl, zl, ?_⟩
      rw [← eb]
      have tb : TOk 600 (pB z) := by rw [eb]; exact tz.cut _ _
      have ta : TOk 600 (pA z) := by rw [ea]; exact tz.cut _ _
      refine ⟨pB z, rfl, tb, fun J1 S1 => ?_⟩
      refine ⟨_, rfl, _, rfl, _, _, rfl, rfl, _, rfl, z, rfl, zl, ?_⟩
      rw [← ea]
      refine ⟨pA z, rfl, ta, fun J2 S2 => ?_⟩
      have S02 := S1.trans S2
      refine ⟨_, _, rfl, ?_⟩
      refine ⟨_, rfl, _, rfl, ?_⟩
      cases c2 : canon (pB z) with
      | false =>
        rw [numO_no c2]
        have e : readW z = none := by unfold readW; rw [if_pos (.inr c2)]
        exact iteT (iteT (q1 J2 S02 e))
      | true =>
        rw [numO_rw c2]
        have n1 : ¬ (pS z = "" ∨ canon (pB z) = false) := by
          rintro (h | h)
          · exact ns h
          · rw [c2] at h; cases h
        refine iteF ⟨_, rfl, _, rfl, ?_⟩
        cases c4 : canon (pA z) with
        | false =>
          rw [numO_no c4]
          refine iteT ⟨_, rfl, _, rfl, _, _, rfl, rfl, _, rfl, z, rfl, zl, ?_⟩
          rw [← ea]
          refine ⟨rfl, _, rfl, ?_⟩
          rw [dec_str]
          by_cases c3 : pA z = ""
          · rw [decide_eq_true c3]
            have e : readW z = some (val (pB z), none) := by unfold readW; rw [if_neg n1, if_pos c3]
            refine iteF ⟨_, rfl, _, rfl, iteF (iteF ⟨_, rfl, _, rfl, (by show 2 ≤ sizeLine; decide), fun t ht => ?_⟩)⟩
            exact q2 _ t _ (S02.trans (new_same ht)) e upd_same
          · rw [decide_eq_false c3]
            have e : readW z = none := by unfold readW; rw [if_neg n1, if_neg c3, if_pos (.inl c4)]
            exact iteT (iteT (q1 J2 S02 e))
        | true =>
          rw [numO_rw c4]
          have c3 : ¬ pA z = "" := by
            intro h
            rw [h] at c4
            have : canon "" = false := by decide +kernel
            rw [this] at c4
            cases c4
          refine iteF (iteF ⟨_, rfl, _, rfl, iteT ⟨_, rfl, _, rfl, _, _, rfl, rfl, _, rfl, ?_⟩⟩)
          by_cases c5 : val (pA z) < val (pB z)
          · rw [decide_eq_true c5]
            have e : readW z = none := by unfold readW; rw [if_neg n1, if_neg c3, if_pos (.inr c5)]
            exact iteT (q1 J2 S02 e)
          · rw [decide_eq_false c5]
            have n2 : ¬ (canon (pA z) = false ∨ val (pA z) < val (pB z)) := by
              rintro (h | h)
              · rw [c4] at h; cases h
              · exact c5 h
            have e : readW z = some (val (pB z), some (val (pA z))) := by unfold readW; rw [if_neg n1, if_neg c3, if_neg n2]
            refine iteF ⟨_, rfl, _, rfl, (by show 2 ≤ sizeLine; decide), fun t ht => ?_⟩
            exact q2 _ t _ (S02.trans (new_same ht)) e upd_same
theorem scTp : FnScope ["_law_one"] ["_law_one"] (defScope sTop) :=
  ⟨rfl, rfl, rfl, by decide +kernel, rfl, by decide +kernel, by decide +kernel⟩
theorem ok_top {f : Addr} {fd : FuncData} (F : Fun K "_law_top" "_law_top" sTop f fd) :
    FnOk P w K mg base CX0 1 f fd ["_law_one"] spTop := by
  refine F.ok scTp (fun vs H Q E h => ?_) (fun cdv A outer s H vs Q E hr h => ?_)
  · obtain ⟨t, ww, rfl, _⟩ := h
    rfl
  · obtain ⟨t, ⟨l, o⟩, rfl, ht, q⟩ := h
    refine ⟨_, pss_one (ps_ret (pe_ifExp (pt_cmp (pc_isN (pe_ix ix_tup (pv 0) pe_int (fun _ _ => rfl)))) (pe_op op_pow pe_int pe_int) (pe_ix ix_tup (pv 0) pe_int (fun _ _ => rfl)))), ?_⟩
    refine ⟨_, rfl, t, _, _, _, rfl, rfl, SqT.of ht, rfl, _, rfl, ?_⟩
    cases o with
    | none => exact iteT ⟨_, _, rfl, rfl, ⟨by decide, by decide, by decide⟩, q⟩
    | some x => exact iteF ⟨_, rfl, t, _, _, _, rfl, rfl, SqT.of ht, rfl, q⟩
theorem ok_chS {f fD : Addr} {fd fdD : FuncData} (F : Fun K "_law_choice" "_law_choice" sChoice f fd) (T : Txt mg)
    (D : Fun K "_law_draw" "_law_draw" sDraw fD fdD) (bD : Binds K fdD ["_law_rng_here", "_law_many"] []) (gD : mg "_law_draw" = some (.ref fD)) :
    FnOk P w K mg base CX0 2 f fd ["_law_rng_here", "_law_options"] spChS := by
  refine F.ok scC (fun vs H Q E h => ?_) (fun cdv A outer s H vs Q E hr h => ?_)
  · obtain ⟨r, z, rfl, _⟩ := h
    rfl
  · obtain ⟨r, z, rfl, R, x0, x1, q⟩ := h
    refine ⟨_, pss_one (ps_ret (pe_ix ix_str (pv 1) (pe_call (ok_draw D T) hr (by rfl) gD D.kp bD .nil pass0 (pa_cons (pv 0) (pa_cons (pe_callB call_len_str (by rfl) T.len PySem.boot_len (pa_cons (pv 1) pa_nil)) pa_nil))) (fun _ _ => rfl))), ?_⟩
    refine ⟨_, rfl, _, rfl, _, rfl, z, rfl, Nat.le_trans x1 (by decide), r, _, rfl, R, by omega, by omega, fun d H' E' R' d0 d1 => ?_⟩
    have sz : z.cps.toList.length = z.length := by simp [Str.length]
    obtain ⟨c, hc, hm⟩ := at_mem (xs := z.cps.toList) d0 (by omega)
    exact ⟨z, _, c, rfl, rfl, Nat.le_trans x1 (by decide), hc, q c H' E' R' hm⟩
theorem scOd : FnScope ["_law_rng_here", "_law_some"] ["_law_rng_here"] (defScope sOdd) :=
  ⟨rfl, rfl, rfl, by decide +kernel, rfl, by decide +kernel, by decide +kernel⟩
theorem ok_odd {f fC : Addr} {fd fdC : FuncData} (F : Fun K "_law_odd" "_law_odd" sOdd f fd)
    (GC : FnOk P w K mg base CX0 2 fC fdC ["_law_rng_here", "_law_options"] (spChoice K)) (kC : PySem.W.keepIn K (.ref fC) = true) (bC : Binds K fdC ["_law_rng_here", "_law_options"] []) (gC : mg "_law_choice" = some (.ref fC)) :
    FnOk P w K mg base CX0 3 f fd ["_law_rng_here"] spOdd := by
  refine F.ok scOd (fun vs H Q E h => ?_) (fun cdv A outer s H vs Q E hr h => ?_)
  · obtain ⟨r, rfl, _⟩ := h
    rfl
  · obtain ⟨r, rfl, R00, q⟩ := h
    have R0 : RS H r H := ⟨R00, Same.refl H⟩
    refine ⟨_, pss_cons (ps_set (i := 1) scOd.nd rfl (Or.inl rfl) (pe_lst (pa_cons (pe_tup (pa_cons pe_int (pa_cons pe_int pa_nil))) (pa_cons (pe_tup (pa_cons pe_int (pa_cons pe_int pa_nil))) (pa_cons (pe_tup (pa_cons pe_int (pa_cons pe_non pa_nil))) (pa_cons (pe_tup (pa_cons pe_int (pa_cons pe_int pa_nil))) (pa_cons (pe_tup (pa_cons pe_bl (pa_cons pe_int pa_nil))) (pa_cons (pe_tup (pa_cons pe_int (pa_cons pe_bl pa_nil))) (pa_cons (pe_tup (pa_cons pe_int (pa_cons pe_bl pa_nil))) (pa_cons (pe_tup (pa_cons (pe_un un_neg pe_int) (pa_cons pe_int pa_nil))) (pa_cons (pe_tup (pa_cons pe_int pa_nil)) (pa_cons (pe_tup (pa_cons pe_int (pa_cons pe_int (pa_cons pe_int pa_nil)))) (pa_cons (pe_lstS (pa_cons pe_int (pa_cons pe_int pa_nil))) (pa_cons pe_non pa_nil))))))))))))))
      (pss_cons (ps_set (i := 1) scOd.nd rfl (Or.inl rfl) (pe_op op_cat (pv 1) (pe_lst (pa_cons (pe_tup (pa_cons pe_non (pa_cons pe_non pa_nil))) (pa_cons (pe_tup (pa_cons pe_non (pa_cons pe_int pa_nil))) (pa_cons (pe_tup (pa_cons pe_str (pa_cons pe_int pa_nil))) (pa_cons (pe_tup (pa_cons pe_int (pa_cons pe_str pa_nil))) (pa_cons pe_int (pa_cons pe_bl (pa_cons pe_str (pa_cons pe_str (pa_cons (pe_tup pa_nil) (pa_cons (pe_lstS pa_nil) (pa_cons pe_dnewK (pa_cons (pe_disp (pps_cons pe_int pe_int pps_nil) (by rfl) (by rfl) (fun z => by cases z) (by decide)) (pa_cons (pe_tup (pa_cons (pe_tup (pa_cons pe_int (pa_cons pe_int pa_nil))) pa_nil)) pa_nil))))))))))))))))
      (pss_one (ps_ret (pe_call GC hr (by rfl) gC kC bC .nil pass0 (pa_cons (pv 0) (pa_cons (pe_op op_cat (pv 1) (pe_lst (pa_cons (pe_tup (pa_cons (pe_op op_pow pe_int pe_int) (pa_cons pe_non pa_nil))) (pa_cons (pe_tup (pa_cons pe_int (pa_cons (pe_op op_pow pe_int pe_int) pa_nil))) (pa_cons (pe_tup (pa_cons pe_int (pa_cons pe_int pa_nil))) (pa_cons (pe_tup (pa_cons pe_int (pa_cons pe_int pa_nil))) (pa_cons (pe_tup (pa_cons pe_int (pa_cons pe_int pa_nil))) (pa_cons (pe_tup (pa_cons pe_int (pa_cons pe_int pa_nil))) (pa_cons (pe_tup (pa_cons pe_int (pa_cons pe_non pa_nil))) pa_nil))))))))) pa_nil)))))), ?_⟩
    refine ⟨(by show 2 ≤ sizeLine; decide), fun po1 hpo1 => ?_⟩
    obtain ⟨Jo1, jo1, So1, Uo1, Ro1, ko1, go1⟩ := stpO (o := .tup ([.int 0, .int 0] : List V)) R0 hpo1
    rw [jo1]
    have do1 : Da (offs H Jo1) (.ref po1) (.tuple [.int 0, .int 0]) := Da.tup go1 (.cons (.int _) (.cons (.int _) .nil))
    refine ⟨(by show 2 ≤ sizeLine; decide), fun po2 hpo2 => ?_⟩
    obtain ⟨Jo2, jo2, So2, Uo2, Ro2, ko2, go2⟩ := stpO (o := .tup ([.int 1, .int 3] : List V)) Ro1 hpo2
    rw [jo2]
    have do2 : Da (offs H Jo2) (.ref po2) (.tuple [.int 1, .int 3]) := Da.tup go2 (.cons (.int _) (.cons (.int _) .nil))
    refine ⟨(by show 2 ≤ sizeLine; decide), fun po3 hpo3 => ?_⟩
    obtain ⟨Jo3, jo3, So3, Uo3, Ro3, ko3, go3⟩ := stpO (o := .tup ([.int 2, .non] : List V)) Ro2 hpo3
    rw [jo3]
    have do3 : Da (offs H Jo3) (.ref po3) (.tuple [.int 2, .none]) := Da.tup go3 (.cons (.int _) (.cons (.non) .nil))
    refine ⟨(by show 2 ≤ sizeLine; decide), fun po4 hpo4 => ?_⟩
    obtain ⟨Jo4, jo4, So4, Uo4, Ro4, ko4, go4⟩ := stpO (o := .tup ([.int 3, .int 1] : List V)) Ro3 hpo4
    rw [jo4]
    have do4 : Da (offs H Jo4) (.ref po4) (.tuple [.int 3, .int 1]) := Da.tup go4 (.cons (.int _) (.cons (.int _) .nil))
    refine ⟨(by show 2 ≤ sizeLine; decide), fun po5 hpo5 => ?_⟩
    obtain ⟨Jo5, jo5, So5, Uo5, Ro5, ko5, go5⟩ := stpO (o := .tup ([.bl true, .int 2] : List V)) Ro4 hpo5
    rw [jo5]
    have do5 : Da (offs H Jo5) (.ref po5) (.tuple [.bool true, .int 2]) := Da.tup go5 (.cons (.bl _) (.cons (.int _) .nil))
    refine ⟨(by show 2 ≤ sizeLine; decide), fun po6 hpo6 => ?_⟩
    obtain ⟨Jo6, jo6, So6, Uo6, Ro6, ko6, go6⟩ := stpO (o := .tup ([.int 0, .bl true] : List V)) Ro5 hpo6
    rw [jo6]
    have do6 : Da (offs H Jo6) (.ref po6) (.tuple [.int 0, .bool true]) := Da.tup go6 (.cons (.int _) (.cons (.bl _) .nil))
    refine ⟨(by show 2 ≤ sizeLine; decide), fun po7 hpo7 => ?_⟩
    obtain ⟨Jo7, jo7, So7, Uo7, Ro7, ko7, go7⟩ := stpO (o := .tup ([.int 0, .bl false] : List V)) Ro6 hpo7
    rw [jo7]
    have do7 : Da (offs H Jo7) (.ref po7) (.tuple [.int 0, .bool false]) := Da.tup go7 (.cons (.int _) (.cons (.bl _) .nil))
    refine ⟨_, rfl, (by show 2 ≤ sizeLine; decide), fun po8 hpo8 => ?_⟩
    obtain ⟨Jo8, jo8, So8, Uo8, Ro8, ko8, go8⟩ := stpO (o := .tup ([.int (-1), .int 2] : List V)) Ro7 hpo8
    rw [jo8]
    have do8 : Da (offs H Jo8) (.ref po8) (.tuple [.int (-1), .int 2]) := Da.tup go8 (.cons (.int _) (.cons (.int _) .nil))
    refine ⟨(by show 1 ≤ sizeLine; decide), fun po9 hpo9 => ?_⟩
    obtain ⟨Jo9, jo9, So9, Uo9, Ro9, ko9, go9⟩ := stpO (o := .tup ([.int 0] : List V)) Ro8 hpo9
    rw [jo9]
    have do9 : Da (offs H Jo9) (.ref po9) (.tuple [.int 0]) := Da.tup go9 (.cons (.int _) .nil)
    refine ⟨(by show 3 ≤ sizeLine; decide), fun po10 hpo10 => ?_⟩
    obtain ⟨Jo10, jo10, So10, Uo10, Ro10, ko10, go10⟩ := stpO (o := .tup ([.int 0, .int 1, .int 2] : List V)) Ro9 hpo10
    rw [jo10]
    have do10 : Da (offs H Jo10) (.ref po10) (.tuple [.int 0, .int 1, .int 2]) := Da.tup go10 (.cons (.int _) (.cons (.int _) (.cons (.int _) .nil)))
    refine ⟨(by show 2 ≤ sizeLine; decide), fun po11 hpo11 npo11 => ?_⟩
    obtain ⟨Jo11, jo11, So11, Uo11, Ro11, ko11, go11⟩ := stpO (o := .lst ([.int 0, .int 1] : List V)) Ro10 hpo11
    rw [jo11]
    have do11 : Da (offs H Jo11) (.ref po11) (.list [.int 0, .int 1]) := Da.lst npo11 go11 (.cons (.int _) (.cons (.int _) .nil))
    refine ⟨(by show 12 ≤ sizeLine; decide), fun po12 hpo12 => ?_⟩
    obtain ⟨Jo12, jo12, So12, Uo12, Ro12, ko12, go12⟩ := stpO (o := .lst ([.ref po1, .ref po2, .ref po3, .ref po4, .ref po5, .ref po6, .ref po7, .ref po8, .ref po9, .ref po10, .ref po11, .non] : List V)) Ro11 hpo12
    rw [jo12]
    refine ⟨_, rfl, (by show 2 ≤ sizeLine; decide), fun po13 hpo13 => ?_⟩
    obtain ⟨Jo13, jo13, So13, Uo13, Ro13, ko13, go13⟩ := stpO (o := .tup ([.non, .non] : List V)) Ro12 hpo13
    rw [jo13]
    have do13 : Da (offs H Jo13) (.ref po13) (.tuple [.none, .none]) := Da.tup go13 (.cons (.non) (.cons (.non) .nil))
    refine ⟨(by show 2 ≤ sizeLine; decide), fun po14 hpo14 => ?_⟩
    obtain ⟨Jo14, jo14, So14, Uo14, Ro14, ko14, go14⟩ := stpO (o := .tup ([.non, .int 1] : List V)) Ro13 hpo14
    rw [jo14]
    have do14 : Da (offs H Jo14) (.ref po14) (.tuple [.none, .int 1]) := Da.tup go14 (.cons (.non) (.cons (.int _) .nil))
    refine ⟨(by show 2 ≤ sizeLine; decide), fun po15 hpo15 => ?_⟩
    obtain ⟨Jo15, jo15, So15, Uo15, Ro15, ko15, go15⟩ := stpO (o := .tup ([.str "0", .int 1] : List V)) Ro14 hpo15
    rw [jo15]
    have do15 : Da (offs H Jo15) (.ref po15) (.tuple [.str "0", .int 1]) := Da.tup go15 (.cons (.str _) (.cons (.int _) .nil))
    refine ⟨(by show 2 ≤ sizeLine; decide), fun po16 hpo16 => ?_⟩
    obtain ⟨Jo16, jo16, So16, Uo16, Ro16, ko16, go16⟩ := stpO (o := .tup ([.int 0, .str "1"] : List V)) Ro15 hpo16
    rw [jo16]
    have do16 : Da (offs H Jo16) (.ref po16) (.tuple [.int 0, .str "1"]) := Da.tup go16 (.cons (.int _) (.cons (.str _) .nil))
    refine ⟨(by show 0 ≤ sizeLine; decide), fun po17 hpo17 => ?_⟩
    obtain ⟨Jo17, jo17, So17, Uo17, Ro17, ko17, go17⟩ := stpO (o := .tup ([] : List V)) Ro16 hpo17
    rw [jo17]
    have do17 : Da (offs H Jo17) (.ref po17) (.tuple []) := Da.tup go17 .nil
    refine ⟨(by show 0 ≤ sizeLine; decide), fun po18 hpo18 npo18 => ?_⟩
    obtain ⟨Jo18, jo18, So18, Uo18, Ro18, ko18, go18⟩ := stpO (o := .lst ([] : List V)) Ro17 hpo18
    rw [jo18]
    have do18 : Da (offs H Jo18) (.ref po18) (.list []) := Da.lst npo18 go18 .nil
    refine fun po19 hpo19 => ?_
    obtain ⟨Jo19, jo19, So19, Uo19, Ro19, ko19, go19⟩ := stpO (o := .dK ([] : List (Key × V))) Ro18 hpo19
    rw [jo19]
    have do19 : Da (offs H Jo19) (.ref po19) (.dict []) := Da.dic go19 .nil
    refine fun po20 hpo20 => ?_
    refine ⟨upd_same, ([(Sum.inl 0, .int 1)] : List (Key × V)), rfl, by decide, ?_⟩
    rw [upd_upd, merge1]
    obtain ⟨Jo20, jo20, So20, Uo20, Ro20, ko20, go20⟩ := stpO (o := .dK ([(Sum.inl 0, .int 1)] : List (Key × V))) Ro19 hpo20
    rw [jo20]
    have do20 : Da (offs H Jo20) (.ref po20) (.dict [(.int 0, .int 1)]) := Da.dic go20 (.cons (.int _) .nil)
    refine ⟨(by show 2 ≤ sizeLine; decide), fun po21 hpo21 => ?_⟩
    obtain ⟨Jo21, jo21, So21, Uo21, Ro21, ko21, go21⟩ := stpO (o := .tup ([.int 0, .int 1] : List V)) Ro20 hpo21
    rw [jo21]
    have do21 : Da (offs H Jo21) (.ref po21) (.tuple [.int 0, .int 1]) := Da.tup go21 (.cons (.int _) (.cons (.int _) .nil))
    refine ⟨(by show 1 ≤ sizeLine; decide), fun po22 hpo22 => ?_⟩
    obtain ⟨Jo22, jo22, So22, Uo22, Ro22, ko22, go22⟩ := stpO (o := .tup ([.ref po21] : List V)) Ro21 hpo22
    rw [jo22]
    have do22 : Da (offs H Jo22) (.ref po22) (.tuple [.tuple [.int 0, .int 1]]) := Da.tup go22 (.cons (do21.mono (Uo22)) .nil)
    refine ⟨(by show 13 ≤ sizeLine; decide), fun po23 hpo23 => ?_⟩
    obtain ⟨Jo23, jo23, So23, Uo23, Ro23, ko23, go23⟩ := stpO (o := .lst ([.ref po13, .ref po14, .ref po15, .ref po16, .int 0, .bl true, .str "", .str "0..1", .ref po17, .ref po18, .ref po19, .ref po20, .ref po22] : List V)) Ro22 hpo23
    rw [jo23]
    refine ⟨po12, po23, _, _, rfl, rfl, (So13.trans (So14.trans (So15.trans (So16.trans (So17.trans (So18.trans (So19.trans (So20.trans (So21.trans (So22.trans (So23))))))))))) _ _ ko12, ko23, (by show 25 ≤ sizeLine; decide), fun pz hpz => ?_⟩
    obtain ⟨Jz, jz, Sz, Uz, Rz, kz, gz⟩ := stpO (o := .lst ([.ref po1, .ref po2, .ref po3, .ref po4, .ref po5, .ref po6, .ref po7, .ref po8, .ref po9, .ref po10, .ref po11, .non] ++ [.ref po13, .ref po14, .ref po15, .ref po16, .int 0, .bl true, .str "", .str "0..1", .ref po17, .ref po18, .ref po19, .ref po20, .ref po22] : List V)) Ro23 hpz
    rw [jz]
    refine ⟨_, rfl, _, rfl, _, _, rfl, rfl, ⟨by decide, by decide, by decide⟩, (by show 2 ≤ sizeLine; decide), fun po24 hpo24 => ?_⟩
    obtain ⟨Jo24, jo24, So24, Uo24, Ro24, ko24, go24⟩ := stpO (o := .tup ([.int (10 ^ (59 : Int).toNat), .non] : List V)) Rz hpo24
    rw [jo24]
    have do24 : Da (offs H Jo24) (.ref po24) (.tuple [.int (10 ^ (59 : Int).toNat), .none]) := Da.tup go24 (.cons (.int _) (.cons (.non) .nil))
    refine ⟨_, _, rfl, rfl, ⟨by decide, by decide, by decide⟩, (by show 2 ≤ sizeLine; decide), fun po25 hpo25 => ?_⟩
    obtain ⟨Jo25, jo25, So25, Uo25, Ro25, ko25, go25⟩ := stpO (o := .tup ([.int 0, .int (10 ^ (59 : Int).toNat)] : List V)) Ro24 hpo25
    rw [jo25]
    have do25 : Da (offs H Jo25) (.ref po25) (.tuple [.int 0, .int (10 ^ (59 : Int).toNat)]) := Da.tup go25 (.cons (.int _) (.cons (.int _) .nil))
    refine ⟨(by show 2 ≤ sizeLine; decide), fun po26 hpo26 => ?_⟩
    obtain ⟨Jo26, jo26, So26, Uo26, Ro26, ko26, go26⟩ := stpO (o := .tup ([.int 5, .int 5] : List V)) Ro25 hpo26
    rw [jo26]
    have do26 : Da (offs H Jo26) (.ref po26) (.tuple [.int 5, .int 5]) := Da.tup go26 (.cons (.int _) (.cons (.int _) .nil))
    refine ⟨(by show 2 ≤ sizeLine; decide), fun po27 hpo27 => ?_⟩
    obtain ⟨Jo27, jo27, So27, Uo27, Ro27, ko27, go27⟩ := stpO (o := .tup ([.int 2, .int 4] : List V)) Ro26 hpo27
    rw [jo27]
    have do27 : Da (offs H Jo27) (.ref po27) (.tuple [.int 2, .int 4]) := Da.tup go27 (.cons (.int _) (.cons (.int _) .nil))
    refine ⟨(by show 2 ≤ sizeLine; decide), fun po28 hpo28 => ?_⟩
    obtain ⟨Jo28, jo28, So28, Uo28, Ro28, ko28, go28⟩ := stpO (o := .tup ([.int 0, .int 2] : List V)) Ro27 hpo28
    rw [jo28]
    have do28 : Da (offs H Jo28) (.ref po28) (.tuple [.int 0, .int 2]) := Da.tup go28 (.cons (.int _) (.cons (.int _) .nil))
    refine ⟨(by show 2 ≤ sizeLine; decide), fun po29 hpo29 => ?_⟩
    obtain ⟨Jo29, jo29, So29, Uo29, Ro29, ko29, go29⟩ := stpO (o := .tup ([.int 1, .int 2] : List V)) Ro28 hpo29
    rw [jo29]
    have do29 : Da (offs H Jo29) (.ref po29) (.tuple [.int 1, .int 2]) := Da.tup go29 (.cons (.int _) (.cons (.int _) .nil))
    refine ⟨(by show 2 ≤ sizeLine; decide), fun po30 hpo30 => ?_⟩
    obtain ⟨Jo30, jo30, So30, Uo30, Ro30, ko30, go30⟩ := stpO (o := .tup ([.int 4, .non] : List V)) Ro29 hpo30
    rw [jo30]
    have do30 : Da (offs H Jo30) (.ref po30) (.tuple [.int 4, .none]) := Da.tup go30 (.cons (.int _) (.cons (.non) .nil))
    refine ⟨(by show 7 ≤ sizeLine; decide), fun po31 hpo31 => ?_⟩
    obtain ⟨Jo31, jo31, So31, Uo31, Ro31, ko31, go31⟩ := stpO (o := .lst ([.ref po24, .ref po25, .ref po26, .ref po27, .ref po28, .ref po29, .ref po30] : List V)) Ro30 hpo31
    rw [jo31]
    refine ⟨pz, po31, _, _, rfl, rfl, (So24.trans (So25.trans (So26.trans (So27.trans (So28.trans (So29.trans (So30.trans (So31)))))))) _ _ kz, ko31, (by show 32 ≤ sizeLine; decide), fun py hpy => ?_⟩
    obtain ⟨Jy, jy, Sy, Uy, Ry, ky, gy⟩ := stpO (o := .lst (([.ref po1, .ref po2, .ref po3, .ref po4, .ref po5, .ref po6, .ref po7, .ref po8, .ref po9, .ref po10, .ref po11, .non] ++ [.ref po13, .ref po14, .ref po15, .ref po16, .int 0, .bl true, .str "", .str "0..1", .ref po17, .ref po18, .ref po19, .ref po20, .ref po22]) ++ [.ref po24, .ref po25, .ref po26, .ref po27, .ref po28, .ref po29, .ref po30] : List V)) Ro31 hpy
    rw [jy]
    have mem : ∀ v ∈ (([.ref po1, .ref po2, .ref po3, .ref po4, .ref po5, .ref po6, .ref po7, .ref po8, .ref po9, .ref po10, .ref po11, .non] ++ [.ref po13, .ref po14, .ref po15, .ref po16, .int 0, .bl true, .str "", .str "0..1", .ref po17, .ref po18, .ref po19, .ref po20, .ref po22]) ++ [.ref po24, .ref po25, .ref po26, .ref po27, .ref po28, .ref po29, .ref po30] : List V), ∃ d : PyData, Da (offs H Jy) v d ∧ Od d :=
      (List.forall_mem_cons.2 ⟨⟨.tuple [.int 0, .int 0], do1.mono (Uo2.trans (Uo3.trans (Uo4.trans (Uo5.trans (Uo6.trans (Uo7.trans (Uo8.trans (Uo9.trans (Uo10.trans (Uo11.trans (Uo12.trans (Uo13.trans (Uo14.trans (Uo15.trans (Uo16.trans (Uo17.trans (Uo18.trans (Uo19.trans (Uo20.trans (Uo21.trans (Uo22.trans (Uo23.trans (Uz.trans (Uo24.trans (Uo25.trans (Uo26.trans (Uo27.trans (Uo28.trans (Uo29.trans (Uo30.trans (Uo31.trans (Uy)))))))))))))))))))))))))))))))), od_by (by decide +kernel)⟩,
      (List.forall_mem_cons.2 ⟨⟨.tuple [.int 1, .int 3], do2.mono (Uo3.trans (Uo4.trans (Uo5.trans (Uo6.trans (Uo7.trans (Uo8.trans (Uo9.trans (Uo10.trans (Uo11.trans (Uo12.trans (Uo13.trans (Uo14.trans (Uo15.trans (Uo16.trans (Uo17.trans (Uo18.trans (Uo19.trans (Uo20.trans (Uo21.trans (Uo22.trans (Uo23.trans (Uz.trans (Uo24.trans (Uo25.trans (Uo26.trans (Uo27.trans (Uo28.trans (Uo29.trans (Uo30.trans (Uo31.trans (Uy))))))))))))))))))))))))))))))), od_by (by decide +kernel)⟩,
      (List.forall_mem_cons.2 ⟨⟨.tuple [.int 2, .none], do3.mono (Uo4.trans (Uo5.trans (Uo6.trans (Uo7.trans (Uo8.trans (Uo9.trans (Uo10.trans (Uo11.trans (Uo12.trans (Uo13.trans (Uo14.trans (Uo15.trans (Uo16.trans (Uo17.trans (Uo18.trans (Uo19.trans (Uo20.trans (Uo21.trans (Uo22.trans (Uo23.trans (Uz.trans (Uo24.trans (Uo25.trans (Uo26.trans (Uo27.trans (Uo28.trans (Uo29.trans (Uo30.trans (Uo31.trans (Uy)))))))))))))))))))))))))))))), od_by (by decide +kernel)⟩,
      (List.forall_mem_cons.2 ⟨⟨.tuple [.int 3, .int 1], do4.mono (Uo5.trans (Uo6.trans (Uo7.trans (Uo8.trans (Uo9.trans (Uo10.trans (Uo11.trans (Uo12.trans (Uo13.trans (Uo14.trans (Uo15.trans (Uo16.trans (Uo17.trans (Uo18.trans (Uo19.trans (Uo20.trans (Uo21.trans (Uo22.trans (Uo23.trans (Uz.trans (Uo24.trans (Uo25.trans (Uo26.trans (Uo27.trans (Uo28.trans (Uo29.trans (Uo30.trans (Uo31.trans (Uy))))))))))))))))))))))))))))), od_by (by decide +kernel)⟩,
      (List.forall_mem_cons.2 ⟨⟨.tuple [.bool true, .int 2], do5.mono (Uo6.trans (Uo7.trans (Uo8.trans (Uo9.trans (Uo10.trans (Uo11.trans (Uo12.trans (Uo13.trans (Uo14.trans (Uo15.trans (Uo16.trans (Uo17.trans (Uo18.trans (Uo19.trans (Uo20.trans (Uo21.trans (Uo22.trans (Uo23.trans (Uz.trans (Uo24.trans (Uo25.trans (Uo26.trans (Uo27.trans (Uo28.trans (Uo29.trans (Uo30.trans (Uo31.trans (Uy)))))))))))))))))))))))))))), od_by (by decide +kernel)⟩,
      (List.forall_mem_cons.2 ⟨⟨.tuple [.int 0, .bool true], do6.mono (Uo7.trans (Uo8.trans (Uo9.trans (Uo10.trans (Uo11.trans (Uo12.trans (Uo13.trans (Uo14.trans (Uo15.trans (Uo16.trans (Uo17.trans (Uo18.trans (Uo19.trans (Uo20.trans (Uo21.trans (Uo22.trans (Uo23.trans (Uz.trans (Uo24.trans (Uo25.trans (Uo26.trans (Uo27.trans (Uo28.trans (Uo29.trans (Uo30.trans (Uo31.trans (Uy))))))))))))))))))))))))))), od_by (by decide +kernel)⟩,
      (List.forall_mem_cons.2 ⟨⟨.tuple [.int 0, .bool false], do7.mono (Uo8.trans (Uo9.trans (Uo10.trans (Uo11.trans (Uo12.trans (Uo13.trans (Uo14.trans (Uo15.trans (Uo16.trans (Uo17.trans (Uo18.trans (Uo19.trans (Uo20.trans (Uo21.trans (Uo22.trans (Uo23.trans (Uz.trans (Uo24.trans (Uo25.trans (Uo26.trans (Uo27.trans (Uo28.trans (Uo29.trans (Uo30.trans (Uo31.trans (Uy)))))))))))))))))))))))))), od_by (by decide +kernel)⟩,
      (List.forall_mem_cons.2 ⟨⟨.tuple [.int (-1), .int 2], do8.mono (Uo9.trans (Uo10.trans (Uo11.trans (Uo12.trans (Uo13.trans (Uo14.trans (Uo15.trans (Uo16.trans (Uo17.trans (Uo18.trans (Uo19.trans (Uo20.trans (Uo21.trans (Uo22.trans (Uo23.trans (Uz.trans (Uo24.trans (Uo25.trans (Uo26.trans (Uo27.trans (Uo28.trans (Uo29.trans (Uo30.trans (Uo31.trans (Uy))))))))))))))))))))))))), od_by (by decide +kernel)⟩,
      (List.forall_mem_cons.2 ⟨⟨.tuple [.int 0], do9.mono (Uo10.trans (Uo11.trans (Uo12.trans (Uo13.trans (Uo14.trans (Uo15.trans (Uo16.trans (Uo17.trans (Uo18.trans (Uo19.trans (Uo20.trans (Uo21.trans (Uo22.trans (Uo23.trans (Uz.trans (Uo24.trans (Uo25.trans (Uo26.trans (Uo27.trans (Uo28.trans (Uo29.trans (Uo30.trans (Uo31.trans (Uy)))))))))))))))))))))))), od_by (by decide +kernel)⟩,
      (List.forall_mem_cons.2 ⟨⟨.tuple [.int 0, .int 1, .int 2], do10.mono (Uo11.trans (Uo12.trans (Uo13.trans (Uo14.trans (Uo15.trans (Uo16.trans (Uo17.trans (Uo18.trans (Uo19.trans (Uo20.trans (Uo21.trans (Uo22.trans (Uo23.trans (Uz.trans (Uo24.trans (Uo25.trans (Uo26.trans (Uo27.trans (Uo28.trans (Uo29.trans (Uo30.trans (Uo31.trans (Uy))))))))))))))))))))))), od_by (by decide +kernel)⟩,
      (List.forall_mem_cons.2 ⟨⟨.list [.int 0, .int 1], do11.mono (Uo12.trans (Uo13.trans (Uo14.trans (Uo15.trans (Uo16.trans (Uo17.trans (Uo18.trans (Uo19.trans (Uo20.trans (Uo21.trans (Uo22.trans (Uo23.trans (Uz.trans (Uo24.trans (Uo25.trans (Uo26.trans (Uo27.trans (Uo28.trans (Uo29.trans (Uo30.trans (Uo31.trans (Uy)))))))))))))))))))))), od_by (by decide +kernel)⟩,
      (List.forall_mem_cons.2 ⟨⟨.none, .non, od_by (by decide +kernel)⟩,
      (List.forall_mem_cons.2 ⟨⟨.tuple [.none, .none], do13.mono (Uo14.trans (Uo15.trans (Uo16.trans (Uo17.trans (Uo18.trans (Uo19.trans (Uo20.trans (Uo21.trans (Uo22.trans (Uo23.trans (Uz.trans (Uo24.trans (Uo25.trans (Uo26.trans (Uo27.trans (Uo28.trans (Uo29.trans (Uo30.trans (Uo31.trans (Uy)))))))))))))))))))), od_by (by decide +kernel)⟩,
      (List.forall_mem_cons.2 ⟨⟨.tuple [.none, .int 1], do14.mono (Uo15.trans (Uo16.trans (Uo17.trans (Uo18.trans (Uo19.trans (Uo20.trans (Uo21.trans (Uo22.trans (Uo23.trans (Uz.trans (Uo24.trans (Uo25.trans (Uo26.trans (Uo27.trans (Uo28.trans (Uo29.trans (Uo30.trans (Uo31.trans (Uy))))))))))))))))))), od_by (by decide +kernel)⟩,
      (List.forall_mem_cons.2 ⟨⟨.tuple [.str "0", .int 1], do15.mono (Uo16.trans (Uo17.trans (Uo18.trans (Uo19.trans (Uo20.trans (Uo21.trans (Uo22.trans (Uo23.trans (Uz.trans (Uo24.trans (Uo25.trans (Uo26.trans (Uo27.trans (Uo28.trans (Uo29.trans (Uo30.trans (Uo31.trans (Uy)))))))))))))))))), od_by (by decide +kernel)⟩,
      (List.forall_mem_cons.2 ⟨⟨.tuple [.int 0, .str "1"], do16.mono (Uo17.trans (Uo18.trans (Uo19.trans (Uo20.trans (Uo21.trans (Uo22.trans (Uo23.trans (Uz.trans (Uo24.trans (Uo25.trans (Uo26.trans (Uo27.trans (Uo28.trans (Uo29.trans (Uo30.trans (Uo31.trans (Uy))))))))))))))))), od_by (by decide +kernel)⟩,
      (List.forall_mem_cons.2 ⟨⟨.int 0, .int _, od_by (by decide +kernel)⟩,
      (List.forall_mem_cons.2 ⟨⟨.bool true, .bl _, od_by (by decide +kernel)⟩,
      (List.forall_mem_cons.2 ⟨⟨.str "", .str _, od_by (by decide +kernel)⟩,
      (List.forall_mem_cons.2 ⟨⟨.str "0..1", .str _, od_by (by decide +kernel)⟩,
      (List.forall_mem_cons.2 ⟨⟨.tuple [], do17.mono (Uo18.trans (Uo19.trans (Uo20.trans (Uo21.trans (Uo22.trans (Uo23.trans (Uz.trans (Uo24.trans (Uo25.trans (Uo26.trans (Uo27.trans (Uo28.trans (Uo29.trans (Uo30.trans (Uo31.trans (Uy)))))))))))))))), od_by (by decide +kernel)⟩,
      (List.forall_mem_cons.2 ⟨⟨.list [], do18.mono (Uo19.trans (Uo20.trans (Uo21.trans (Uo22.trans (Uo23.trans (Uz.trans (Uo24.trans (Uo25.trans (Uo26.trans (Uo27.trans (Uo28.trans (Uo29.trans (Uo30.trans (Uo31.trans (Uy))))))))))))))), od_by (by decide +kernel)⟩,
      (List.forall_mem_cons.2 ⟨⟨.dict [], do19.mono (Uo20.trans (Uo21.trans (Uo22.trans (Uo23.trans (Uz.trans (Uo24.trans (Uo25.trans (Uo26.trans (Uo27.trans (Uo28.trans (Uo29.trans (Uo30.trans (Uo31.trans (Uy)))))))))))))), od_by (by decide +kernel)⟩,
      (List.forall_mem_cons.2 ⟨⟨.dict [(.int 0, .int 1)], do20.mono (Uo21.trans (Uo22.trans (Uo23.trans (Uz.trans (Uo24.trans (Uo25.trans (Uo26.trans (Uo27.trans (Uo28.trans (Uo29.trans (Uo30.trans (Uo31.trans (Uy))))))))))))), od_by (by decide +kernel)⟩,
      (List.forall_mem_cons.2 ⟨⟨.tuple [.tuple [.int 0, .int 1]], do22.mono (Uo23.trans (Uz.trans (Uo24.trans (Uo25.trans (Uo26.trans (Uo27.trans (Uo28.trans (Uo29.trans (Uo30.trans (Uo31.trans (Uy))))))))))), od_by (by decide +kernel)⟩,
      (List.forall_mem_cons.2 ⟨⟨.tuple [.int (10 ^ (59 : Int).toNat), .none], do24.mono (Uo25.trans (Uo26.trans (Uo27.trans (Uo28.trans (Uo29.trans (Uo30.trans (Uo31.trans (Uy)))))))), od_by (by decide +kernel)⟩,
      (List.forall_mem_cons.2 ⟨⟨.tuple [.int 0, .int (10 ^ (59 : Int).toNat)], do25.mono (Uo26.trans (Uo27.trans (Uo28.trans (Uo29.trans (Uo30.trans (Uo31.trans (Uy))))))), od_by (by decide +kernel)⟩,
      (List.forall_mem_cons.2 ⟨⟨.tuple [.int 5, .int 5], do26.mono (Uo27.trans (Uo28.trans (Uo29.trans (Uo30.trans (Uo31.trans (Uy)))))), od_by (by decide +kernel)⟩,
      (List.forall_mem_cons.2 ⟨⟨.tuple [.int 2, .int 4], do27.mono (Uo28.trans (Uo29.trans (Uo30.trans (Uo31.trans (Uy))))), od_by (by decide +kernel)⟩,
      (List.forall_mem_cons.2 ⟨⟨.tuple [.int 0, .int 2], do28.mono (Uo29.trans (Uo30.trans (Uo31.trans (Uy)))), od_by (by decide +kernel)⟩,
      (List.forall_mem_cons.2 ⟨⟨.tuple [.int 1, .int 2], do29.mono (Uo30.trans (Uo31.trans (Uy))), od_by (by decide +kernel)⟩,
      (List.forall_mem_cons.2 ⟨⟨.tuple [.int 4, .none], do30.mono (Uo31.trans (Uy)), od_by (by decide +kernel)⟩,
      (fun v hv => by cases hv)⟩)⟩)⟩)⟩)⟩)⟩)⟩)⟩)⟩)⟩)⟩)⟩)⟩)⟩)⟩)⟩)⟩)⟩)⟩)⟩)⟩)⟩)⟩)⟩)⟩)⟩)⟩)⟩)⟩)⟩)⟩)⟩)
    refine ⟨r, _, _, rfl, Ry.1, SqL.of ky, Ry.1.ne ky (fun _ _ z => by cases z), (by show 0 < 32; decide), (by show 32 ≤ 1000; decide), fun v H3 E3 R3 hm => ?_⟩
    obtain ⟨d, hd, od⟩ := mem v hm
    exact q v d H3 ((Ext.of (So1.trans (So2.trans (So3.trans (So4.trans (So5.trans (So6.trans (So7.trans (So8.trans (So9.trans (So10.trans (So11.trans (So12.trans (So13.trans (So14.trans (So15.trans (So16.trans (So17.trans (So18.trans (So19.trans (So20.trans (So21.trans (So22.trans (So23.trans (Sz.trans (So24.trans (So25.trans (So26.trans (So27.trans (So28.trans (So29.trans (So30.trans (So31.trans (Sy)))))))))))))))))))))))))))))))))).trans E3) R3 (hd.mono (offs_ext R00 E3)) od
end
end N6
set_option maxHeartbeats 4000000
namespace N6
open PySem PySem.Spec PyProof.Rows L2 G N4 LamX
/-- how the classes stand to each other -/
structure Fam (K : PySem.W.Frag) (mg : Str → Option Value) (CG CW CS CV CT : Addr) : Prop where
  gG : mg "GroupError" = some (.ref CG)
  ww : PySem.W.exmOne K (.ref CW) (.ref CW) = some true
  sw : PySem.W.exmOne K (.ref CS) (.ref CW) = some false
  ss : PySem.W.exmOne K (.ref CS) (.ref CS) = some true
  vw : PySem.W.exmOne K (.ref CV) (.ref CW) = some false
  vs : PySem.W.exmOne K (.ref CV) (.ref CS) = some false
  vv : PySem.W.exmOne K (.ref CV) (.ref CV) = some true
  tw : PySem.W.exmOne K (.ref CT) (.ref CW) = some false
  ts : PySem.W.exmOne K (.ref CT) (.ref CS) = some false
  tv : PySem.W.exmOne K (.ref CT) (.ref CV) = some false
  tt : PySem.W.exmOne K (.ref CT) (.ref CT) = some true
/-- what is shown of a name and data -/
def rp (nm : Str) (d : PyData) : Str := (PyData.list [.str nm, d]).shown
abbrev L2d (nm : Str) (d : PyData) : PyData := .list [.str nm, d]
def Kind (CW CS CV CT : Addr) (cls : Value) (nm fld : Str) : Prop := (cls = .ref CW ∧ nm = "window" ∧ fld = "value") ∨ (cls = .ref CS ∧ nm = "windows" ∧ fld = "position") ∨
  (cls = .ref CV ∧ nm = "version" ∧ fld = "value") ∨ (cls = .ref CT ∧ nm = "text" ∧ fld = "line")
def TT6 (CW CS CV CT : Addr) : (XK → Hp → VK → Prop) → Hp → VK → Prop := fun tl H Q => ∀ H0, Same H H0 → ∀ (R : XK) (S : VK),
  (∀ cls d J, (∃ (dx : Addr) (v : V) (dv : PyData) (nm fld : Str), d = some dx ∧ J dx = some (.xd [(fld, v)]) ∧ Da J v dv ∧ Shw (L2d nm dv) ∧
    Kind CW CS CV CT cls nm fld ∧ ∀ H', Same J H' → Q (.str (rp nm dv)) H') → R cls d J) →
  (∀ (v : V) (dv : PyData) (J : Hp), Da J v dv → Shw (L2d "told" dv) → (∀ H', Same J H' → Q (.str (rp "told" dv)) H') → S v J) → tl R H0 S
abbrev NT : List Str := ["_law_call", "_law_told_here", "e"]
theorem scTo : FnScope NT ["_law_call"] (defScope sTold) :=
  ⟨rfl, rfl, rfl, by decide +kernel, rfl, by decide +kernel, by decide +kernel⟩
theorem told_gives {X : Cx} {g CG CW CS CV CT : Addr} {cdg : Value} {q : Str} (gd : X.A.guards = some []) (hu : X.A.units + 200 < cLine) (T : Txt X.mg) (T2 : Fam X.K X.mg CG CW CS CV CT)
    (TW : XCls X.prog X.w X.K X.mg X.base "InvalidWindow" CW "value" "value") (TS : XCls X.prog X.w X.K X.mg X.base "InvalidWindows" CS "position" "position")
    (TV : XCls X.prog X.w X.K X.mg X.base "InvalidVersion" CV "value" "value") (TT : XCls X.prog X.w X.K X.mg X.base "InvalidText" CT "line" "line") :
    GivesS X NT "_law_told" (defScope sTold) g cdg (defBody sTold) "_law_call" q (TT6 CW CS CV CT) := by
  intro f c' s H Q tl act hc h
  have gd2 : (X.A.deeper (envOfC "_law_told" (defScope sTold) s.heap.objs.size g cdg)).guards = some [] := gd
  have hu2 : (X.A.deeper (envOfC "_law_told" (defScope sTold) s.heap.objs.size g cdg)).units + 64 < cLine := by
    show X.A.units + 3 + 64 < cLine
    omega
  refine ⟨_, pss_cons (ps_set (i := 1) scTo.nd rfl (Or.inl rfl) pe_non)
    (pss_cons (ps_try_hs (X := (cxOf CX0 X.prog X.w X.K X.mg X.base NT "_law_told" (defScope sTold) g cdg X.A X.stack s H E0).nox) (Wo := fun _ _ _ _ => False)
        (tb := fun W => tAsg (tLstS (tCons (tC (.str "told")) (tCons (fun σz Hz Q => σz[0]? = some (some (.ref f)) ∧ Hz c' = some (CodeO c' q) ∧ tl (WE W σz) Hz Q) tNil))) (gName 1))
        rfl rfl L2.takes0
        (fun W pn xe tk _ => pss_one (ps_set (i := 1) scTo.nd rfl (Or.inl rfl) (by exact (pe_lstS (pa_cons pe_str (pa_cons (act W pn xe _ _ tk) pa_nil))))))
        (.named (i := 2) ⟨rfl, by decide, Or.inl TW.gC⟩ scTo.nd rfl rfl (fun a oe cls d pn hz hf => pss_one (ps_set (i := 1) scTo.nd rfl (Or.inl rfl) (pe_lstS (pa_cons pe_str (pa_cons (pe_xf TW.xf TW.no hz hf (pv 2)) pa_nil)))))
        (.named (i := 2) ⟨rfl, by decide, Or.inl TS.gC⟩ scTo.nd rfl rfl (fun a oe cls d pn hz hf => pss_one (ps_set (i := 1) scTo.nd rfl (Or.inl rfl) (pe_lstS (pa_cons pe_str (pa_cons (pe_xf TS.xf TS.no hz hf (pv 2)) pa_nil)))))
        (.named (i := 2) ⟨rfl, by decide, Or.inl TV.gC⟩ scTo.nd rfl rfl (fun a oe cls d pn hz hf => pss_one (ps_set (i := 1) scTo.nd rfl (Or.inl rfl) (pe_lstS (pa_cons pe_str (pa_cons (pe_xf TV.xf TV.no hz hf (pv 2)) pa_nil)))))
        (.named (i := 2) ⟨rfl, by decide, Or.inl TT.gC⟩ scTo.nd rfl rfl (fun a oe cls d pn hz hf => pss_one (ps_set (i := 1) scTo.nd rfl (Or.inl rfl) (pe_lstS (pa_cons pe_str (pa_cons (pe_xf TT.xf TT.no hz hf (pv 2)) pa_nil)))))
        (.plain ⟨rfl, by decide, Or.inl T2.gG⟩ (fun a oe cls d pn hz hf => pss_one (ps_set (i := 1) scTo.nd rfl (Or.inl rfl) (pe_lstS (pa_cons pe_str pa_nil)))) .nil))))))
    (pss_one (ps_ret (pe_callB (call_repS gd2 hu2) (by rfl) T.repr (by decide +kernel) (pa_cons (pv 1) pa_nil))))), ?_⟩
  refine ⟨rfl, hc, ?_⟩
  refine h H (Same.refl H) _ _ ?_ (fun v dv J hd hs hyp => ?_)
  · rintro cls d J ⟨dx, v, dv, nm, fld, rfl, hx, hd, hs, hcls, qq⟩
    rcases hcls with ⟨rfl, rfl, rfl⟩ | ⟨rfl, rfl, rfl⟩ | ⟨rfl, rfl, rfl⟩ | ⟨rfl, rfl, rfl⟩
    · refine ⟨true, T2.ww, fun _ a ha => ?_, fun z => Bool.noConfusion z⟩
      refine ⟨_, rfl, rfl, rfl, dx, _, v, rfl, hx, rfl, (by show 2 ≤ sizeLine; decide), fun p hp np => ?_⟩
      have S1 := new_same (o := .lst [.str "window", v]) hp
      exact ⟨_, rfl, _, L2d "window" dv, rfl, .lst np upd_same (.cons (.str _) (.cons (hd.mono S1) .nil)), hs, qq _ S1⟩
    · refine ⟨false, T2.sw, fun z => Bool.noConfusion z, fun _ => ⟨true, T2.ss, fun _ a ha => ?_, fun z => Bool.noConfusion z⟩⟩
      refine ⟨_, rfl, rfl, rfl, dx, _, v, rfl, hx, rfl, (by show 2 ≤ sizeLine; decide), fun p hp np => ?_⟩
      have S1 := new_same (o := .lst [.str "windows", v]) hp
      exact ⟨_, rfl, _, L2d "windows" dv, rfl, .lst np upd_same (.cons (.str _) (.cons (hd.mono S1) .nil)), hs, qq _ S1⟩
    · refine ⟨false, T2.vw, fun z => Bool.noConfusion z, fun _ => ⟨false, T2.vs, fun z => Bool.noConfusion z, fun _ => ⟨true, T2.vv, fun _ a ha => ?_, fun z => Bool.noConfusion z⟩⟩⟩
      refine ⟨_, rfl, rfl, rfl, dx, _, v, rfl, hx, rfl, (by show 2 ≤ sizeLine; decide), fun p hp np => ?_⟩
      have S1 := new_same (o := .lst [.str "version", v]) hp
      exact ⟨_, rfl, _, L2d "version" dv, rfl, .lst np upd_same (.cons (.str _) (.cons (hd.mono S1) .nil)), hs, qq _ S1⟩
    · refine ⟨false, T2.tw, fun z => Bool.noConfusion z, fun _ => ⟨false, T2.ts, fun z => Bool.noConfusion z, fun _ => ⟨false, T2.tv, fun z => Bool.noConfusion z, fun _ => ⟨true, T2.tt, fun _ a ha => ?_, fun z => Bool.noConfusion z⟩⟩⟩⟩
      refine ⟨_, rfl, rfl, rfl, dx, _, v, rfl, hx, rfl, (by show 2 ≤ sizeLine; decide), fun p hp np => ?_⟩
      have S1 := new_same (o := .lst [.str "text", v]) hp
      exact ⟨_, rfl, _, L2d "text" dv, rfl, .lst np upd_same (.cons (.str _) (.cons (hd.mono S1) .nil)), hs, qq _ S1⟩
  · refine ⟨(by show 2 ≤ sizeLine; decide), fun p hp np => ?_⟩
    have S1 := new_same (o := .lst [.str "told", v]) hp
    exact ⟨_, rfl, _, L2d "told" dv, rfl, .lst np upd_same (.cons (.str _) (.cons (hd.mono S1) .nil)), hs, hyp _ S1⟩
end N6
set_option maxHeartbeats 4000000
namespace N6
open PySem PySem.Spec PyProof.Rows L2 G N4 LamX
end N6
namespace G
open PySem PySem.Spec PyProof.Rows L2
/-- three statements, then the rest: I is what holds in between -/
def tCut3 (t1 t2 t3 u : TS) : TS := fun D σ H => ∃ I : L2.St → Hp → Prop, (∀ σ J, I σ J → u D σ J) ∧
  t1 { D with nx := fun σ J => t2 { D with nx := fun σ J => t3 { D with nx := I } σ J } σ J } σ H
theorem pss_cut3 {X : Cx} {s1 s2 s3 : Stmt} {rest : List Stmt} {t1 t2 t3 u : TS} (h1 : PS X s1 t1) (h2 : PS X s2 t2) (h3 : PS X s3 t3) (h4 : PSs X rest u) :
    PSs X (s1 :: s2 :: s3 :: rest) (tCut3 t1 t2 t3 u) := by
  refine ⟨fun pins s σ H D J h => ?_⟩
  obtain ⟨I, go, h⟩ := h
  refine wpAny_execs_cons (thn (h1.run pins s σ H { D with nx := fun σ J => t2 { D with nx := fun σ J => t3 { D with nx := I } σ J } σ J } J h) fun fl s1 q => ?_)
  cases fl with
  | ret v => exact q
  | brk => exact q
  | cont => exact q
  | next =>
    obtain ⟨σ2, H2, J2, i2⟩ := q
    refine wpAny_execs_cons (thn (h2.run pins s1 σ2 H2 { D with nx := fun σ J => t3 { D with nx := I } σ J } J2 i2) fun fl s2 q => ?_)
    cases fl with
    | ret v => exact q
    | brk => exact q
    | cont => exact q
    | next =>
      obtain ⟨σ3, H3, J3, i3⟩ := q
      refine wpAny_execs_cons (thn (h3.run pins s2 σ3 H3 { D with nx := I } J3 i3) fun fl s3 q => ?_)
      cases fl with
      | ret v => exact q
      | brk => exact q
      | cont => exact q
      | next =>
        obtain ⟨σ4, H4, J4, i4⟩ := q
        exact h4.run pins s3 σ4 H4 D J4 (go σ4 H4 i4)
end G
namespace N6
open PySem PySem.Spec PyProof.Rows L2 G N4 LamX
/-! what is told -/
theorem shown2 (nm : Str) (d : PyData) : TL.tl (rp nm d) = 91 :: (TL.tl (PyData.shown (.str nm)) ++ 44 :: 32 :: (TL.tl d.shown ++ [93])) := by
  show TL.tl (listText [PyData.shown (.str nm), d.shown]) = _
  simp only [listText, textFrom]
  rw [TL.tl_append, TL.tl_append, TL.tl_append, TL.tl_append, TL.tl_append]
  have a1 : TL.tl (Str.ofString "[") = [91] := by decide +kernel
  have a2 : TL.tl (Str.ofString ", ") = [44, 32] := by decide +kernel
  have a3 : TL.tl (Str.ofString "]") = [93] := by decide +kernel
  have a4 : TL.tl (Str.ofString "") = [] := by decide +kernel
  simp [a1, a2, a3, a4]
theorem told_cut (d : PyData) : cutS (rp "told" d) (some 2) (some 6) = ("told" : Str) := by
  have e := shown2 "told" d
  have e2 : TL.tl (PyData.shown (.str "told")) = [39, 116, 111, 108, 100, 39] := by decide +kernel
  rw [e2] at e
  have l : (rp "told" d).length = (TL.tl (rp "told" d)).length := by simp [TL.tl, Str.length]
  have l2 : 6 ≤ (rp "told" d).length := by rw [l, e]; simp
  have h : cutS (rp "told" d) (some ((2 : Nat) : Int)) (some ((6 : Nat) : Int)) = ⟨(((TL.tl (rp "told" d)).drop 2).take 4).toArray⟩ := by
    unfold cutS
    rw [HT.sIx_nat, HT.sIx_nat, Nat.min_eq_left l2, Nat.min_eq_left (by omega)]
  rw [e] at h
  exact h.trans (by rfl)
theorem in2 {n k : Nat} {a b : PyData} (ha : Ok2 n k a) (hb : Ok2 n k b) : ∀ d ∈ [a, b], Ok2 n k d := by
  intro d hd
  simp only [List.mem_cons, List.not_mem_nil, or_false] at hd
  rcases hd with rfl | rfl
  · exact ha
  · exact hb
theorem okB2 (b : Bool) : Ok2 80 3 (.bool b) := by cases b <;> exact ⟨rfl, by decide, by decide +kernel⟩
theorem shw2 {nm : Str} {d : PyData} (hn : Ok2 80 3 (.str nm)) (h : Ok2 80 3 d) : Shw (L2d nm d) :=
  (ok2_list (in2 hn h)).shw (by show 2 * 80 + 2 * 2 + 3 ≤ 12000000; decide) (by decide)
theorem nmW : Ok2 80 3 (.str "window") := ⟨rfl, by decide, by decide +kernel⟩
theorem nmS : Ok2 80 3 (.str "windows") := ⟨rfl, by decide, by decide +kernel⟩
theorem nmV : Ok2 80 3 (.str "version") := ⟨rfl, by decide, by decide +kernel⟩
theorem nmX : Ok2 80 3 (.str "text") := ⟨rfl, by decide, by decide +kernel⟩
theorem nmT : Ok2 80 3 (.str "told") := ⟨rfl, by decide, by decide +kernel⟩
def toldC (d1 d2 : PyData) : Str := if winB d1 = false then rp "window" d1 else if verB d2 = false then rp "version" d2 else rp "told" (.bool (conD d1 d2))
def toldR (d1 d2 : PyData) : Str := if winB d1 = false then rp "window" d1 else if winB d2 = false then rp "window" d2 else rp "told" (.bool (risD d1 d2))
section
variable {T : List (Addr × Str)} {CW CS CV CT : Addr} {σ : L2.St} {H : Hp} {Q : VK} {v1 v2 : V} {d1 d2 : PyData} {i j : Nat}
theorem run_cont (hT : Tabs T H) (h1 : Da H v1 d1) (h2 : Da H v2 d2) (s1 : Shw (L2d "window" d1)) (s2 : Shw (L2d "version" d2)) (hi : σ[i]? = some (some v1)) (hj : σ[j]? = some (some v2))
    (q : ∀ H', ExtN H H' → Tabs T H' → Q (.str (toldC d1 d2)) H') :
    tLam T (TT6 CW CS CV CT) (fun E => tCall (spCont CW CV) [] E (tCons (tVar i) (tCons (tVar j) tNil))) σ H Q := by
  refine ⟨hT, fun H1 e1 t1 => ?_⟩
  intro H0 S0 R S herr hok
  have e0 : ExtN H H0 := e1.trans (ExtN.same S0)
  have t0 : Tabs T H0 := t1.ext S0
  have Q0 : ∀ H', Same H0 H' → Q (.str (toldC d1 d2)) H' := fun H' S' => q H' (e0.trans (ExtN.same S')) (t0.ext S')
  refine ⟨v1, hi, v2, hj, v1, v2, d1, d2, rfl, h1.monoN e0, h2.monoN e0, ?_, ?_, ?_⟩
  · intro w x hb hv ew ex
    have n1 : ¬ winB d1 = false := by rw [hb]; decide
    have n2 : ¬ verB d2 = false := by rw [hv]; decide
    subst ew ex
    rw [toldC, if_neg n1, if_neg n2, con_wD] at Q0
    exact hok _ _ _ (.bl _) (shw2 nmT (okB2 _)) Q0
  · intro hb dx hdx
    have S1 := new_same (o := .xd [("value", v1)]) hdx
    rw [toldC, if_pos hb] at Q0
    exact herr _ _ _ ⟨dx, v1, d1, "window", "value", rfl, upd_same, (h1.monoN e0).mono S1, s1, .inl ⟨rfl, rfl, rfl⟩, fun H' S' => Q0 H' (S1.trans S')⟩
  · intro hb hv dx hdx
    have S1 := new_same (o := .xd [("value", v2)]) hdx
    have n1 : ¬ winB d1 = false := by rw [hb]; decide
    rw [toldC, if_neg n1, if_pos hv] at Q0
    exact herr _ _ _ ⟨dx, v2, d2, "version", "value", rfl, upd_same, (h2.monoN e0).mono S1, s2, .inr (.inr (.inl ⟨rfl, rfl, rfl⟩)), fun H' S' => Q0 H' (S1.trans S')⟩
theorem run_rise (hT : Tabs T H) (h1 : Da H v1 d1) (h2 : Da H v2 d2) (s1 : Shw (L2d "window" d1)) (s2 : Shw (L2d "window" d2)) (hi : σ[i]? = some (some v1)) (hj : σ[j]? = some (some v2))
    (q : ∀ H', ExtN H H' → Tabs T H' → Q (.str (toldR d1 d2)) H') :
    tLam T (TT6 CW CS CV CT) (fun E => tCall (spRises CW) [] E (tCons (tVar i) (tCons (tVar j) tNil))) σ H Q := by
  refine ⟨hT, fun H1 e1 t1 => ?_⟩
  intro H0 S0 R S herr hok
  have e0 : ExtN H H0 := e1.trans (ExtN.same S0)
  have t0 : Tabs T H0 := t1.ext S0
  have Q0 : ∀ H', Same H0 H' → Q (.str (toldR d1 d2)) H' := fun H' S' => q H' (e0.trans (ExtN.same S')) (t0.ext S')
  refine ⟨v1, hi, v2, hj, v1, v2, d1, d2, rfl, h1.monoN e0, h2.monoN e0, ?_, ?_, ?_⟩
  · intro w x hb hv ew ex
    have n1 : ¬ winB d1 = false := by rw [hb]; decide
    have n2 : ¬ winB d2 = false := by rw [hv]; decide
    subst ew ex
    rw [toldR, if_neg n1, if_neg n2, ris_wD] at Q0
    exact hok _ _ _ (.bl _) (shw2 nmT (okB2 _)) Q0
  · intro hb dx hdx
    have S1 := new_same (o := .xd [("value", v1)]) hdx
    rw [toldR, if_pos hb] at Q0
    exact herr _ _ _ ⟨dx, v1, d1, "window", "value", rfl, upd_same, (h1.monoN e0).mono S1, s1, .inl ⟨rfl, rfl, rfl⟩, fun H' S' => Q0 H' (S1.trans S')⟩
  · intro hb hv dx hdx
    have S1 := new_same (o := .xd [("value", v2)]) hdx
    have n1 : ¬ winB d1 = false := by rw [hb]; decide
    rw [toldR, if_neg n1, if_pos hv] at Q0
    exact herr _ _ _ ⟨dx, v2, d2, "window", "value", rfl, upd_same, (h2.monoN e0).mono S1, s2, .inl ⟨rfl, rfl, rfl⟩, fun H' S' => Q0 H' (S1.trans S')⟩
theorem run_fmt (hT : Tabs T H) (h1 : Da H v1 d1) (s1 : Shw (L2d "window" d1)) (hb : winB d1 = false) (hi : σ[i]? = some (some v1))
    (q : ∀ H', ExtN H H' → Tabs T H' → Q (.str (rp "window" d1)) H') :
    tLam T (TT6 CW CS CV CT) (fun E => tCall (spFmt CW) [] E (tCons (tVar i) tNil)) σ H Q := by
  refine ⟨hT, fun H1 e1 t1 => ?_⟩
  intro H0 S0 R S herr hok
  have e0 : ExtN H H0 := e1.trans (ExtN.same S0)
  have t0 : Tabs T H0 := t1.ext S0
  refine ⟨v1, hi, v1, d1, rfl, h1.monoN e0, fun w _ hw => (by rw [hb] at hw; cases hw), fun _ dx hdx => ?_⟩
  have S1 := new_same (o := .xd [("value", v1)]) hdx
  exact herr _ _ _ ⟨dx, v1, d1, "window", "value", rfl, upd_same, (h1.monoN e0).mono S1, s1, .inl ⟨rfl, rfl, rfl⟩, fun H' S' => q H' (e0.trans (ExtN.same (S1.trans S'))) (t0.ext (S1.trans S'))⟩
end
/-- each part of the law -/
def spPart (T : List (Addr × Str)) : Sp := fun vs H Q _ => ∃ r : Addr, vs = [.ref r] ∧ Rng H r ∧ Tabs T H ∧ ∀ H', ExtR r H H' → Rng H' r → Tabs T H' → Q (.bl true) H'
abbrev NS : List Str := ["_law_rng_here", "_law_one", "_law_other", "_law_number_here", "_law_good", "_law_due", "_law_told_here"]
def qS : Str := ("_law_singles_right" : Str) ++ ".<locals>." ++ "<lambda>"
theorem qS_eq (L f : Addr) (cd : Value) : (envOfC "_law_singles_right" (defScope sSingle) L f cd).qual ++ "<lambda>" = qS := rfl
section
variable {P : Program} {w : World} {K : PySem.W.Frag} {mg : Str → Option Value} {base : Heap}
theorem scSi : FnScope NS ["_law_rng_here"] (defScope sSingle) :=
  ⟨rfl, rfl, rfl, by decide +kernel, rfl, by decide +kernel, by decide +kernel⟩
theorem ok_single {fO fC fI fL fW fN fR fF : Addr} {fdO fdC fdI fdL fdW fdN fdR fdF : FuncData} {f cP tP fT CG CW CS CV CT : Addr} {dV kV dc pm ct oc dV2 kV2 dc2 pm2 cdT ct2 oc2 : Value} {an od an2 od2 : Option Addr} {sl sl2 : Array (Option Value)} {tb : List (Addr × Str)}
    (lk : K.lookup f = some ⟨oc, od, .func (PySem.W.fnOf "_law_singles_right" "_law_singles_right" (defArgs sSingle) (defBody sSingle) (defScope sSingle) dV kV dc pm an (.ref cP) ct), sl⟩)
    (hcd : PySem.W.codeIn K (.ref cP) "_law_singles_right" = true) (T : Txt mg) (T2 : Fam K mg CG CW CS CV CT)
    (TW : XCls P w K mg base "InvalidWindow" CW "value" "value") (TS : XCls P w K mg base "InvalidWindows" CS "position" "position") (TV : XCls P w K mg base "InvalidVersion" CV "value" "value") (TX : XCls P w K mg base "InvalidText" CT "line" "line")
    (lkT : K.lookup fT = some ⟨oc2, od2, .func (PySem.W.fnOf "_law_told" "_law_told" (defArgs sTold) (defBody sTold) (defScope sTold) dV2 kV2 dc2 pm2 an2 cdT ct2), sl2⟩)
    (hcT : PySem.W.codeIn K cdT "_law_told" = true) (kT : PySem.W.keepIn K (.ref fT) = true) (gT : mg "_law_told" = some (.ref fT))
    (bT : Binds K (PySem.W.fnOf "_law_told" "_law_told" (defArgs sTold) (defBody sTold) (defScope sTold) dV2 kV2 dc2 pm2 an2 cdT ct2) ["_law_call"] [])
    (TB : TabB base mg cP tP) (hmT : (tP, qS) ∈ tb) (huT : ∀ p ∈ tb, p.1 = tP → p.2 = qS)
    (GO : FnOk P w K mg base CX0 3 fO fdO ["_law_rng_here"] spOdd) (kO : PySem.W.keepIn K (.ref fO) = true) (bO : Binds K fdO ["_law_rng_here"] []) (gO : mg "_law_odd" = some (.ref fO))
    (GC : FnOk P w K mg base CX0 2 fC fdC ["_law_rng_here", "_law_options"] (spChoice K)) (kC : PySem.W.keepIn K (.ref fC) = true) (bC : Binds K fdC ["_law_rng_here", "_law_options"] []) (gC : mg "_law_choice" = some (.ref fC))
    (GI : FnOk P w K mg base CX0 1 fI fdI ["_law_one"] (spB verB)) (kI : PySem.W.keepIn K (.ref fI) = true) (bI : Binds K fdI ["_law_one"] []) (gI : mg "_law_is_count" = some (.ref fI))
    (GL : FnOk P w K mg base CX0 2 fL fdL ["_law_one"] (spB winB)) (kL : PySem.W.keepIn K (.ref fL) = true) (bL : Binds K fdL ["_law_one"] []) (gL : mg "_law_is_window" = some (.ref fL))
    (GW : FnOk P w K mg base CX0 2 fW fdW ["value"] (spB winB)) (kW : PySem.W.keepIn K (.ref fW) = true) (bW : Binds K fdW ["value"] []) (gW : mg "is_window" = some (.ref fW))
    (qW : ∀ (s : Shared) (ws : List Value), ws.length = 1 → BindsTo s fdW ⟨[], (["value"] : List Str).zip ws⟩ ((["value"] : List Str).zip (id ws)))
    (GN : FnOk P w K mg base (L2.CX P w) 4 fN fdN ["window", "version"] (spCont CW CV)) (kN : PySem.W.keepIn K (.ref fN) = true) (bN : Binds K fdN ["window", "version"] []) (gN : mg "contains" = some (.ref fN))
    (GR : FnOk P w K mg base (L2.CX P w) 4 fR fdR ["first", "second"] (spRises CW)) (kR : PySem.W.keepIn K (.ref fR) = true) (bR : Binds K fdR ["first", "second"] []) (gR : mg "rises" = some (.ref fR))
    (GF : FnOk P w K mg base (L2.CX P w) 4 fF fdF ["window"] (spFmt CW)) (kF : PySem.W.keepIn K (.ref fF) = true) (bF : Binds K fdF ["window"] []) (gF : mg "format_window" = some (.ref fF)) :
    FnG P w K mg base CX0 9 f (PySem.W.fnOf "_law_singles_right" "_law_singles_right" (defArgs sSingle) (defBody sSingle) (defScope sSingle) dV kV dc pm an (.ref cP) ct) ["_law_rng_here"] (spPart tb) := by
  refine fn_ofG lk hcd scSi (fun vs H Q E h => ?_) (fun A outer s H vs Q E gd hr h => ?_)
  · obtain ⟨r, rfl, _⟩ := h
    rfl
  · obtain ⟨r, rfl, R0, t0, q⟩ := h
    have hrM : Room 8 _ := hr
    have hrO : Room 3 _ := hr.mono (by decide)
    have hrC : Room 2 _ := hr.mono (by decide)
    have hrI : Room 1 _ := hr.mono (by decide)
    have hrL : Room 2 _ := hr.mono (by decide)
    have hrW : Room 2 _ := hr.mono (by decide)
    have nd := scSi.nd
    have hmT' : (tP, (envOfC "_law_singles_right" (defScope sSingle) s.heap.objs.size f (.ref cP)).qual ++ "<lambda>") ∈ tb := by rw [qS_eq]; exact hmT
    have huT' : ∀ p ∈ tb, p.1 = tP → p.2 = (envOfC "_law_singles_right" (defScope sSingle) s.heap.objs.size f (.ref cP)).qual ++ "<lambda>" := by rw [qS_eq]; exact huT
    have hu : (A.deeper (envOfC "_law_singles_right" (defScope sSingle) s.heap.objs.size f (.ref cP))).units + 200 < cLine := by have := hr.un; omega
    have body : ∃ t, PSs (cxOf CX0 P w K mg base NS "_law_singles_right" (defScope sSingle) f (.ref cP) A outer s H E).nox (defBody sSingle) t ∧
        t { nx := fun _ J => Q .non J, rt := Q } (start NS [.ref r]) H := by
      refine ⟨_, pss_cons (ps_asg (pe_tup (pa_cons (pe_call GO hrO (by rfl) gO kO bO .nil pass0 (pa_cons (pv 0) pa_nil)) (pa_cons (pe_call GO hrO (by rfl) gO kO bO .nil pass0 (pa_cons (pv 0) pa_nil)) pa_nil))) (pg_tup rfl (pgs_cons (pg_name (i := 1) nd rfl (Or.inr rfl)) (pgs_cons (pg_name (i := 2) nd rfl (Or.inr rfl)) pgs_nil))))
        (pss_cons (ps_set (i := 3) nd rfl (Or.inr rfl) (pe_call GC hrC (by rfl) gC kC bC .nil pass0 (pa_cons (pv 0) (pa_cons (pe_lst (pa_cons pe_int (pa_cons pe_int (pa_cons pe_int (pa_cons pe_int (pa_cons (pe_un un_neg pe_int) (pa_cons pe_bl (pa_cons pe_non (pa_cons pe_str (pa_cons (pe_tup pa_nil) (pa_cons (pe_lstS pa_nil) (pa_cons (pe_op op_pow pe_int pe_int) pa_nil)))))))))))) pa_nil))))
        (pss_cons (ps_set (i := 4) nd rfl (Or.inl rfl) (pe_lstS (pa_cons (pe_call GL hrL (by rfl) gL kL bL .nil pass0 (pa_cons (pv 1) pa_nil)) (pa_cons (pe_call GL hrL (by rfl) gL kL bL .nil pass0 (pa_cons (pv 2) pa_nil)) pa_nil))))
        (pss_cons (ps_if (pt_cmpR op_ne (pe_callB (call_repS gd hr.units) (by rfl) T.repr (by decide +kernel) (pa_cons (pe_lstS (pa_cons (pe_call GW hrW (by rfl) gW kW bW .nil pass0 (pa_cons (pv 1) pa_nil)) (pa_cons (pe_callKw (m := 1) (ks := ["value"]) id id GW hrW (by rfl) gW kW qW (fun _ _ _ r => r) pass0 (pk_cons (pv 2) pk_nil)) pa_nil))) pa_nil)) (pe_callB (call_repS gd hr.units) (by rfl) T.repr (by decide +kernel) (pa_cons (pv 4) pa_nil)) (nomark _)) (pss_one (ps_ret pe_bl)) pss_nil)
        (pss_cut3 (ps_set (i := 5) nd rfl (Or.inl rfl) (pe_ifExp (pt_not (pt_val (pe_ix ix_list (pv 4) pe_int (fun _ _ => rfl)))) (pe_lstS (pa_cons pe_str (pa_cons (pv 1) pa_nil))) (pe_ifExp (pt_not (pt_val (pe_call GI hrI (by rfl) gI kI bI .nil pass0 (pa_cons (pv 3) pa_nil)))) (pe_lstS (pa_cons pe_str (pa_cons (pv 3) pa_nil))) pe_non)))
        (ps_set (i := 6) nd rfl (Or.inl rfl) (pe_lamS (T := tb) (TT := TT6 CW CS CV CT) (Ng := NT) (k := 6) (t := fun E => tCall (spCont CW CV) [] E (tCons (tVar 1) (tCons (tVar 3) tNil))) (by rfl) gT kT lkT hcT bT scTo rfl (.inl rfl) (told_gives gd hu T T2 TW TS TV TX) TB rfl hmT' huT' hrM (lamS_by (sc := defScope sSingle) (by decide +kernel)) (by rfl) (fun _ _ _ _ _ => by rfl)
            (fun A ou s H E f c' _ hrl => pe_call GN (hrl.mono (by decide)) (by rfl) gN kN bN .nil lam_pass (pa_cons (pv 1) (pa_cons (pv 3) pa_nil)))))
        (ps_if (PW.pt (pw_or (PW.pt (pw_and (pt_cmp (pc_notN (pv 5))) (pw_and1 (pt_cmpR op_ne (pv 6) (pe_callB (call_repS gd hr.units) (by rfl) T.repr (by decide +kernel) (pa_cons (pv 5) pa_nil)) (nomark _))))) (pw_or1 (PW.pt (pw_and (pt_cmp (pc_isN (pv 5))) (pw_and1 (pt_cmpR op_ne (pe_slice sl_str (pv 6) (po_some pe_int) (po_some pe_int)) pe_str (nomark _)))))))) (pss_one (ps_ret pe_bl)) pss_nil)
        (pss_cut3 (ps_set (i := 6) nd rfl (Or.inl rfl) (pe_lamS (T := tb) (TT := TT6 CW CS CV CT) (Ng := NT) (k := 6) (t := fun E => tCall (spRises CW) [] E (tCons (tVar 1) (tCons (tVar 2) tNil))) (by rfl) gT kT lkT hcT bT scTo rfl (.inl rfl) (told_gives gd hu T T2 TW TS TV TX) TB rfl hmT' huT' hrM (lamS_by (sc := defScope sSingle) (by decide +kernel)) (by rfl) (fun _ _ _ _ _ => by rfl)
            (fun A ou s H E f c' _ hrl => pe_call GR (hrl.mono (by decide)) (by rfl) gR kR bR .nil lam_pass (pa_cons (pv 1) (pa_cons (pv 2) pa_nil)))))
        (ps_set (i := 5) nd rfl (Or.inl rfl) (pe_ifExp (pt_cmpR op_notIn_seq pe_bl (pv 4) (by rfl)) pe_non (pe_lstS (pa_cons pe_str (pa_cons (pe_ix ix_list (pe_lst (pa_cons (pv 1) (pa_cons (pv 2) pa_nil))) (pe_bm PySem.F.plainAttrs_list PySem.F.slot_list_index PySem.F.type_list_index mt_index (pv 4) (pa_cons pe_bl pa_nil)) (fun _ _ => rfl)) pa_nil)))))
        (ps_if (PW.pt (pw_or (PW.pt (pw_and (pt_cmp (pc_notN (pv 5))) (pw_and1 (pt_cmpR op_ne (pv 6) (pe_callB (call_repS gd hr.units) (by rfl) T.repr (by decide +kernel) (pa_cons (pv 5) pa_nil)) (nomark _))))) (pw_or1 (PW.pt (pw_and (pt_cmp (pc_isN (pv 5))) (pw_and1 (pt_cmpR op_ne (pe_slice sl_str (pv 6) (po_some pe_int) (po_some pe_int)) pe_str (nomark _)))))))) (pss_one (ps_ret pe_bl)) pss_nil)
        (pss_one (ps_ret (pe_or (pe_ix ix_list (pv 4) pe_int (fun _ _ => rfl)) (pe_one (pe_cmpR op_eq (pe_lamS (T := tb) (TT := TT6 CW CS CV CT) (Ng := NT) (k := 6) (t := fun E => tCall (spFmt CW) [] E (tCons (tVar 1) tNil)) (by rfl) gT kT lkT hcT bT scTo rfl (.inl rfl) (told_gives gd hu T T2 TW TS TV TX) TB rfl hmT' huT' hrM (lamS_by (sc := defScope sSingle) (by decide +kernel)) (by rfl) (fun _ _ _ _ _ => by rfl)
            (fun A ou s H E f c' _ hrl => pe_call GF (hrl.mono (by decide)) (by rfl) gF kF bF .nil lam_pass (pa_cons (pv 1) pa_nil))) (pe_callB (call_repS gd hr.units) (by rfl) T.repr (by decide +kernel) (pa_cons (pe_lstS (pa_cons pe_str (pa_cons (pv 1) pa_nil))) pa_nil)) (nomark _))))))))))), ?_⟩
      refine ⟨_, rfl, r, rfl, R0, fun v1 d1 J1 E1 R1 h1 o1 => ?_⟩
      refine ⟨_, rfl, r, rfl, R1, fun v2 d2 J2 E2 R2 h2 o2 => ?_⟩
      refine ⟨(by show 2 ≤ sizeLine; decide), fun p3 hp3 => ?_⟩
      have h1 := h1.mono (offs_hide R0)
      have h2 := h2.mono (offs_hide R1)
      obtain ⟨J3, j3, S3, U3, R3, k3, g3⟩ := stp (o := .tup [v1, v2]) R2 hp3
      rw [j3]
      refine ⟨p3, _, rfl, SqT.of k3, rfl, _, _, rfl, _, _, rfl, rfl, ?_⟩
      have t3 : Tabs tb J3 := (tabs_ext (tabs_ext t0 E1 R0) E2 R1).ext S3
      have X3 : ExtR r H J3 := ExtR.ext ((E1.trans E2).trans (Ext.of S3))
      have a1 : Da (hide r J3) v1 d1 := (h1.mono (hide_ext E2)).mono U3
      have a2 : Da (hide r J3) v2 d2 := h2.mono U3
      clear h1 h2 g3 k3 j3 hp3
      refine ⟨_, rfl, _, rfl, (by show 0 ≤ sizeLine; decide), fun p4 hp4 => ?_⟩
      obtain ⟨J4, j4, S4, U4, R4, k4, g4⟩ := stp (o := .tup ([] : List V)) R3 hp4
      rw [j4]
      refine ⟨(by show 0 ≤ sizeLine; decide), fun p5 hp5 np5 => ?_⟩
      obtain ⟨J5, j5, S5, U5, R5, k5, g5⟩ := stp (o := .lst ([] : List V)) R4 hp5
      rw [j5]
      refine ⟨_, _, rfl, rfl, ⟨by decide, by decide, by decide⟩, (by show 11 ≤ sizeLine; decide), fun p6 hp6 => ?_⟩
      obtain ⟨J6, j6, S6, U6, R6, k6, g6⟩ := stp (o := .lst ([.int 0, .int 1, .int 2, .int 3, .int (-1), .bl true, .non, .str "1", .ref p4, .ref p5, .int (10 ^ (59 : Int).toNat)] : List V)) R5 hp6
      have j6' : upd J5 p6 (.lst [V.int 0, .int 1, .int 2, .int 3, .int (-1), .bl true, .non, .str "1", .ref p4, .ref p5, .int (10 ^ (59 : Int).toNat)]) = J6 := j6
      rw [j6']
      have mem : ∀ v ∈ ([.int 0, .int 1, .int 2, .int 3, .int (-1), .bl true, .non, .str "1", .ref p4, .ref p5, .int (10 ^ (59 : Int).toNat)] : List V), ∃ d : PyData, Da (hide r J6) v d ∧ Ok2 80 3 d :=
        List.forall_mem_cons.2 ⟨⟨.int 0, .int _, (ok3_by (by decide +kernel)).1⟩,
        List.forall_mem_cons.2 ⟨⟨.int 1, .int _, (ok3_by (by decide +kernel)).1⟩,
        List.forall_mem_cons.2 ⟨⟨.int 2, .int _, (ok3_by (by decide +kernel)).1⟩,
        List.forall_mem_cons.2 ⟨⟨.int 3, .int _, (ok3_by (by decide +kernel)).1⟩,
        List.forall_mem_cons.2 ⟨⟨.int (-1), .int _, (ok3_by (by decide +kernel)).1⟩,
        List.forall_mem_cons.2 ⟨⟨.bool true, .bl _, (ok3_by (by decide +kernel)).1⟩,
        List.forall_mem_cons.2 ⟨⟨.none, .non, (ok3_by (by decide +kernel)).1⟩,
        List.forall_mem_cons.2 ⟨⟨.str "1", .str _, (ok3_by (by decide +kernel)).1⟩,
        List.forall_mem_cons.2 ⟨⟨.tuple [], (Da.tup g4 .nil).mono (U5.trans U6), (ok3_by (by decide +kernel)).1⟩,
        List.forall_mem_cons.2 ⟨⟨.list [], (Da.lst np5 g5 .nil).mono U6, (ok3_by (by decide +kernel)).1⟩,
        List.forall_mem_cons.2 ⟨⟨.int (10 ^ (59 : Int).toNat), .int _, (ok3_by (by decide +kernel)).1⟩, fun v hv => by cases hv⟩⟩⟩⟩⟩⟩⟩⟩⟩⟩⟩
      refine ⟨r, _, _, rfl, R6, SqL.of k6, R6.ne k6 (fun _ _ z => by cases z), (by show 0 < 11; decide), (by show 11 ≤ 1000; decide), fun v3 J7 E7 R7 hv3 => ?_⟩
      obtain ⟨d3, a3, o3⟩ := mem v3 hv3
      have S36 := (S4.trans S5).trans S6
      have U36 := (U4.trans U5).trans U6
      have t7 : Tabs tb J7 := tabs_ext (t3.ext S36) E7 R6
      have X7 : ExtR r H J7 := X3.trans (ExtR.ext ((Ext.of S36).trans E7))
      have b1 := (a1.mono U36).mono (hide_ext E7)
      have b2 := (a2.mono U36).mono (hide_ext E7)
      have b3 := a3.mono (hide_ext E7)
      have hd7 := hide_same r J7
      clear mem a1 a2 a3 U36 S36 j6' j6 k6 g6 k5 g5 k4 g4 j4 j5
      refine ⟨_, rfl, v1, d1, rfl, b1.mono hd7, _, rfl, v2, d2, rfl, b2.mono hd7, (by show 2 ≤ sizeLine; decide), fun pg hpg npg => ?_⟩
      obtain ⟨J8, j8, S8, U8, R8, k8, g8⟩ := stp (o := .lst [V.bl (winB d1), V.bl (winB d2)]) R7 hpg
      rw [j8]
      have sB : Shw (.list [.bool (winB d1), .bool (winB d2)]) := (ok2_list (in2 (okB2 _) (okB2 _))).shw (by show 2 * 80 + 2 * 2 + 3 ≤ 12000000; decide) (by decide)
      have hd8 := hide_same r J8
      have c1 := b1.mono U8
      have c2 := b2.mono U8
      have c3 := b3.mono U8
      refine ⟨_, rfl, v1, d1, rfl, c1.mono hd8, _, rfl, rfl, v2, d2, rfl, c2.mono hd8, (by show 2 ≤ sizeLine; decide), fun p9 hp9 np9 => ?_⟩
      obtain ⟨J9, j9, S9, U9, R9, k9, g9⟩ := stp (o := .lst [V.bl (winB d1), V.bl (winB d2)]) R8 hp9
      rw [j9]
      refine ⟨_, .list [.bool (winB d1), .bool (winB d2)], rfl, .lst np9 k9 (.cons (.bl _) (.cons (.bl _) .nil)), sB, _, rfl, _, .list [.bool (winB d1), .bool (winB d2)], rfl, .lst npg (S9 _ _ k8) (.cons (.bl _) (.cons (.bl _) .nil)), sB, rfl, _, rfl, ?_⟩
      rw [decide_eq_true rfl]
      refine iteF ?_
      have X9 : ExtR r H J9 := X7.trans (ExtR.ext (Ext.of (S8.trans S9)))
      have t9 : Tabs tb J9 := (t7.ext S8).ext S9
      have e1 := c1.mono U9
      have e2 := c2.mono U9
      have e3 := c3.mono U9
      have kg := U9 _ _ g8
      obtain ⟨m1, h1⟩ : ∃ b, winB d1 = b := ⟨_, rfl⟩
      obtain ⟨m2, h2⟩ : ∃ b, winB d2 = b := ⟨_, rfl⟩
      rw [h1, h2] at kg
      have s1 : Shw (L2d "window" d1) := shw2 nmW o1.1.1
      have s2 : Shw (L2d "window" d2) := shw2 nmW o2.1.1
      have s3 : Shw (L2d "version" d3) := shw2 nmV o3
      clear b1 b2 b3 c1 c2 c3 hd7 hd8 j8 j9 k9 g9 hp9 k8 g8 hpg
      have k9 : J9 pg = some (.lst [V.bl m1, V.bl m2]) := hide_same r J9 _ _ kg
      have f1 := e1.mono (hide_same r J9)
      have f3 := e3.mono (hide_same r J9)
      have inv : ∀ J, ExtN J9 J → Tabs tb J → ∀ c5 c6, ∃ c5' c6', [some (V.ref r), some v1, some v2, some v3, some (.ref pg), c5, c6] = [some (V.ref r), some v1, some v2, some v3, some (.ref pg), c5', c6'] ∧ ExtR r H J ∧ Rng J r ∧ Tabs tb J ∧
          Da (hide r J) v1 d1 ∧ Da (hide r J) v2 d2 ∧ hide r J pg = some (.lst [V.bl m1, V.bl m2]) :=
        fun J e t c5 c6 => ⟨c5, c6, rfl, X9.trans (ExtR.extN e), R9.extN e, t, e1.monoN (hide_extN e), e2.monoN (hide_extN e), hide_extN e _ _ kg ntL⟩
      refine ⟨fun (σ : L2.St) (J : Hp) => ∃ c5 c6, σ = [some (V.ref r), some v1, some v2, some v3, some (.ref pg), c5, c6] ∧ ExtR r H J ∧ Rng J r ∧ Tabs tb J ∧
          Da (hide r J) v1 d1 ∧ Da (hide r J) v2 d2 ∧ hide r J pg = some (.lst [V.bl m1, V.bl m2]), ?_, ?_⟩
      rotate_left
      · refine ⟨_, rfl, pg, _, _, _, rfl, rfl, SqL.of k9, rfl, _, rfl, ?_⟩
        cases m1 with
        | false =>
          refine iteT ⟨_, rfl, (by show 2 ≤ sizeLine; decide), fun p10 hp10 np10 => ?_⟩
          obtain ⟨J10, j10, S10, k10⟩ := mk (o := .lst [V.str "window", v1]) hp10
          rw [j10]
          have eC : toldC d1 d3 = (L2d "window" d1).shown := by rw [toldC, if_pos h1]; rfl
          refine run_cont (t9.ext S10) (f1.mono S10) (f3.mono S10) s1 s3 rfl rfl (fun J11 e11 t11 => ?_)
          rw [eC]
          have D : Da J11 (.ref p10) (L2d "window" d1) := (Da.lst np10 k10 (.cons (.str _) (.cons (f1.mono S10) .nil))).monoN e11
          refine ⟨_, rfl, _, rfl, iteT ⟨_, rfl, _, rfl, _, _, rfl, D, s1, rfl, _, rfl, ?_⟩⟩
          rw [decide_eq_true rfl]
          exact iteF ⟨_, rfl, _, rfl, iteF (iteF (inv J11 ((ExtN.same S10).trans e11) t11 _ _))⟩
        | true =>
          refine iteF ⟨_, rfl, v3, d3, rfl, f3, _, rfl, ?_⟩
          have n1 : ¬ winB d1 = false := by rw [h1]; decide
          cases b3 : verB d3 with
          | false =>
            refine iteT ⟨_, rfl, (by show 2 ≤ sizeLine; decide), fun p10 hp10 np10 => ?_⟩
            obtain ⟨J10, j10, S10, k10⟩ := mk (o := .lst [V.str "version", v3]) hp10
            rw [j10]
            have eC : toldC d1 d3 = (L2d "version" d3).shown := by rw [toldC, if_neg n1, if_pos b3]; rfl
            refine run_cont (t9.ext S10) (f1.mono S10) (f3.mono S10) s1 s3 rfl rfl (fun J11 e11 t11 => ?_)
            rw [eC]
            have D : Da J11 (.ref p10) (L2d "version" d3) := (Da.lst np10 k10 (.cons (.str _) (.cons (f3.mono S10) .nil))).monoN e11
            refine ⟨_, rfl, _, rfl, iteT ⟨_, rfl, _, rfl, _, _, rfl, D, s3, rfl, _, rfl, ?_⟩⟩
            rw [decide_eq_true rfl]
            exact iteF ⟨_, rfl, _, rfl, iteF (iteF (inv J11 ((ExtN.same S10).trans e11) t11 _ _))⟩
          | true =>
            refine iteF ?_
            have n3 : ¬ verB d3 = false := by rw [b3]; decide
            have eC : toldC d1 d3 = rp "told" (.bool (conD d1 d3)) := by rw [toldC, if_neg n1, if_neg n3]
            refine run_cont t9 f1 f3 s1 s3 rfl rfl (fun J11 e11 t11 => ?_)
            rw [eC]
            refine ⟨_, rfl, _, rfl, iteF (iteF ⟨_, rfl, _, rfl, iteT ⟨_, rfl, _, rfl, _, rfl, _, rfl, (shw2 nmT (okB2 _)).2.2, ?_⟩⟩)⟩
            rw [told_cut]
            refine ⟨rfl, _, rfl, ?_⟩
            rw [decide_eq_true rfl]
            exact iteF (inv J11 e11 t11 _ _)
      · clear inv e1 e2 e3 f1 f3 kg k9 t9 X9 R9
        rintro σ J12 ⟨c5, c6, rfl, X12, R12, t12, e1, e2, kg⟩
        have k12 : J12 pg = some (.lst [V.bl m1, V.bl m2]) := hide_same r J12 _ _ kg
        have f1 := e1.mono (hide_same r J12)
        have f2 := e2.mono (hide_same r J12)
        refine ⟨fun (σ : L2.St) (J : Hp) => ∃ c5 c6, σ = [some (V.ref r), some v1, some v2, some v3, some (.ref pg), c5, c6] ∧ ExtR r H J ∧ Rng J r ∧ Tabs tb J ∧
          Da (hide r J) v1 d1 ∧ J pg = some (.lst [V.bl m1, V.bl m2]), ?_, ?_⟩
        rotate_left
        · refine run_rise t12 f1 f2 s1 s2 rfl rfl (fun J13 e13 t13 => ?_)
          have k13 := e13 _ _ k12 ntL
          have x1 := f1.monoN e13
          have x2 := f2.monoN e13
          have inv : ∀ J, Same J13 J → ∀ c5 c6, ∃ c5' c6', [some (V.ref r), some v1, some v2, some v3, some (.ref pg), c5, c6] = [some (V.ref r), some v1, some v2, some v3, some (.ref pg), c5', c6'] ∧ ExtR r H J ∧ Rng J r ∧ Tabs tb J ∧
              Da (hide r J) v1 d1 ∧ J pg = some (.lst [V.bl m1, V.bl m2]) :=
            fun J S c5 c6 => ⟨c5, c6, rfl, (X12.trans (ExtR.extN e13)).trans (ExtR.ext (Ext.of S)), (R12.extN e13).same S, t13.ext S, (e1.monoN (hide_extN e13)).mono (hide_to S), S _ _ k13⟩
          have kB : SqL K J13 pg [V.bl m1, V.bl m2] := SqL.of k13
          clear k13 k12 kg
          have wdw : ∀ (m1 m2 : Bool), winB d1 = m1 → winB d2 = m2 → (m1 && m2) = false → ∃ j v d, [V.bl m1, V.bl m2][j]? = some (.bl false) ∧ (∀ (m : Nat) (z' : V), m < j → [V.bl m1, V.bl m2][m]? = some z' → eqV z' (.bl false) = false) ∧ [v1, v2][j]? = some v ∧ Da J13 v d ∧ toldR d1 d2 = (L2d "window" d).shown ∧ Shw (L2d "window" d) := by
            intro m1 m2 h1 h2 h
            cases m1 with
            | false => exact ⟨0, v1, d1, rfl, (fun m z hm _ => absurd hm (Nat.not_lt_zero _)), rfl, x1, by rw [toldR, if_pos h1]; rfl, s1⟩
            | true =>
              cases m2 with
              | true => cases h
              | false =>
                have n1 : ¬ winB d1 = false := by rw [h1]; decide
                exact ⟨1, v2, d2, rfl, (fun m z hm hz => by cases (show m = 0 by omega); cases hz; rfl), rfl, x2, by rw [toldR, if_neg n1, if_pos h2]; rfl, s2⟩
          have wdw := wdw m1 m2 h1 h2
          refine ⟨_, rfl, pg, _, rfl, .inl kB, rfl, rfl, _, rfl, ?_⟩
          cases hb : (m1 && m2) with
          | true =>
            obtain ⟨rfl, rfl⟩ : m1 = true ∧ m2 = true := by simpa using hb
            have n1 : ¬ winB d1 = false := by rw [h1]; decide
            have n2 : ¬ winB d2 = false := by rw [h2]; decide
            have eR : toldR d1 d2 = rp "told" (.bool (risD d1 d2)) := by rw [toldR, if_neg n1, if_neg n2]
            rw [eR]
            refine iteT ?_
            refine ⟨_, rfl, _, rfl, iteF (iteF ⟨_, rfl, _, rfl, iteT ⟨_, rfl, _, rfl, _, rfl, _, rfl, (shw2 nmT (okB2 _)).2.2, ?_⟩⟩)⟩
            rw [told_cut]
            refine ⟨rfl, _, rfl, ?_⟩
            rw [decide_eq_true rfl]
            exact iteF (inv J13 (Same.refl _) _ _)
          | false =>
            obtain ⟨j, v, d, w1, w2, w3, w4, w5, w6⟩ := wdw hb
            rw [w5]
            have cond : (if true = true then !inV (V.bl false) [V.bl m1, V.bl m2] else inV (V.bl false) [V.bl m1, V.bl m2]) = false := by
              cases m1 <;> cases m2 <;> first | rfl | (cases hb)
            rw [cond]
            refine iteF ⟨_, rfl, _, rfl, (by show 2 ≤ sizeLine; decide), fun p20 hp20 => ?_⟩
            obtain ⟨J20, j20, S20, k20⟩ := mk (o := .lst [v1, v2]) hp20
            rw [j20]
            have kB2 : SqL K J20 pg [V.bl m1, V.bl m2] := S20.seq kB
            refine ⟨_, rfl, .inl ⟨rfl, _, kB2⟩, pg, _, .bl false, j, .bl false, rfl, rfl, kB2, rfl, rfl, w1, rfl, w2, p20, _, _, v, rfl, rfl, SqL.of k20, at_in (by omega) (by simpa using w3), (by show 2 ≤ sizeLine; decide), fun p21 hp21 np21 => ?_⟩
            obtain ⟨J21, j21, S21, k21⟩ := mk (o := .lst [V.str "window", v]) hp21
            rw [j21]
            have D : Da J21 (.ref p21) (L2d "window" d) := .lst np21 k21 (.cons (.str _) (.cons ((w4.mono S20).mono S21) .nil))
            refine ⟨_, rfl, _, rfl, iteT ⟨_, rfl, _, rfl, _, _, rfl, D, w6, rfl, _, rfl, ?_⟩⟩
            rw [decide_eq_true rfl]
            exact iteF ⟨_, rfl, _, rfl, iteF (iteF (inv J21 (S20.trans S21) _ _))⟩
        · rintro σ J14 ⟨c5, c6, rfl, X14, R14, t14, y1, k14⟩
          have z1 := y1.mono (hide_same r J14)
          refine ⟨_, rfl, pg, _, _, _, rfl, rfl, SqL.of k14, rfl, _, rfl, ?_⟩
          cases m1 with
          | true => exact iteT (q J14 X14 R14 t14)
          | false =>
            refine iteF (run_fmt t14 z1 s1 h1 rfl (fun J15 e15 t15 => ?_))
            refine ⟨_, rfl, (by show 2 ≤ sizeLine; decide), fun p16 hp16 np16 => ?_⟩
            obtain ⟨J16, j16, S16, k16⟩ := mk (o := .lst [V.str "window", v1]) hp16
            rw [j16]
            refine ⟨_, L2d "window" d1, rfl, .lst np16 k16 (.cons (.str _) (.cons ((z1.monoN e15).mono S16) .nil)), s1, rfl, ?_⟩
            rw [decide_eq_true (show V.str (rp "window" d1) = V.str (L2d "window" d1).shown from rfl)]
            exact q J16 ((X14.trans (ExtR.extN e15)).trans (ExtR.ext (Ext.of S16))) ((R14.extN e15).same S16) (t15.ext S16)
    obtain ⟨t, p, rd⟩ := body
    exact ⟨t, p.nox, rd⟩
end
end N6
set_option maxHeartbeats 4000000
namespace N6
open PySem PySem.Spec PyProof.Rows L2 G N4 LamX
theorem read_wk {z : Str} {w : Wn} (h : readW z = some w) (hl : z.length ≤ 130) : Wk w := by
  have f := fmt_read h
  have pl := part_len z
  unfold readW at h
  by_cases c1 : pS z = "" ∨ canon (pB z) = false
  · rw [if_pos c1] at h
    cases h
  · rw [if_neg c1] at h
    have c2 : canon (pB z) = true := by
      cases q : canon (pB z) with
      | true => rfl
      | false => exact absurd (.inr q) c1
    have v1 : (val (pB z)).natAbs < 10 ^ 130 := val_lt c2 (by omega)
    by_cases c3 : pA z = ""
    · rw [if_pos c3] at h
      cases h
      exact ⟨f.2.1, v1, fun x e => by cases e⟩
    · rw [if_neg c3] at h
      by_cases c4 : canon (pA z) = false ∨ val (pA z) < val (pB z)
      · rw [if_pos c4] at h
        cases h
      · rw [if_neg c4] at h
        cases h
        have c5 : canon (pA z) = true := by
          cases q : canon (pA z) with
          | true => rfl
          | false => exact absurd (.inl q) c4
        exact ⟨f.2.1, v1, fun x e => by cases e; exact ⟨f.2.2 _ rfl, val_lt c5 (by omega)⟩⟩
mutual
theorem Da.dp {K : PySem.W.Frag} {H : Hp} {v : V} {d : PyData} : Da H v d → d.hasDict = false → Dp K H v d
  | .non, _ => .non
  | .bl b, _ => .bl b
  | .int i, _ => .int i
  | .str x, _ => .str x
  | .lst _ h t, e => .lst (SqL.of h) (DaAll.dp t (by simpa [PyData.hasDict] using e))
  | .tup h t, e => .tup (SqT.of h) (DaAll.dp t (by simpa [PyData.hasDict] using e))
  | .dic _ _, e => by simp [PyData.hasDict] at e
theorem DaAll.dp {K : PySem.W.Frag} {H : Hp} {vs : List V} {ds : List PyData} : DaAll H vs ds → PyData.hasDictAll ds = false → DpAll K H vs ds
  | .nil, _ => .nil
  | .cons h t, e => by
    simp only [PyData.hasDictAll, Bool.or_eq_false_iff] at e
    exact .cons (Da.dp h e.1) (DaAll.dp t e.2)
end
def sOk (z : Str) : Bool := z.cps.toList.all fun c => decide (c < 1114112)
theorem strok {z : Str} (h2 : sOk z = true) : PyData.strOk z = true := by
  simp only [PyData.strOk]
  rw [Array.all_eq_true_iff_forall_mem]
  intro c hc
  have := List.all_eq_true.mp h2 c (Array.mem_toList_iff.mpr hc)
  simpa using this
theorem layP {z : Str} (h : sOk z = true) : (PyData.list [.str z, .str z]).canLay0 = true := by
  simp [PyData.canLay0, PyData.canLayAll0, strok h]
theorem shP {z : Str} (h : sOk z = true) : PySem.SeqAt.shaped (.list [.str z, .str z]) = true := by
  unfold PySem.SeqAt.shaped
  rw [layP h]
  rfl
theorem layD (w : Wn) : (wD w).canLay0 = true := by
  obtain ⟨l, o⟩ := w
  cases o <;> rfl
theorem shD (w : Wn) : PySem.SeqAt.shaped (wD w) = true := by
  obtain ⟨l, o⟩ := w
  cases o <;> rfl
theorem tx_ok {i : Int} (h : 0 ≤ i) : sOk (tx i) = true := by
  have q := (canon_parts (canon_tx h)).1
  exact List.all_eq_true.mpr fun c hc => by
    have := q c hc
    exact decide_eq_true (by omega)
theorem app_ok {a b : Str} (h1 : sOk a = true) (h2 : sOk b = true) : sOk (a ++ b) = true := by
  unfold sOk at *
  rw [show (a ++ b).cps.toList = a.cps.toList ++ b.cps.toList from TL.tl_append a b, List.all_append, h1, h2]
  rfl
theorem fmt_ok {w : Wn} (k : Wk w) : sOk (fmtW w) = true := by
  obtain ⟨l, o⟩ := w
  unfold fmtW
  refine app_ok (app_ok (tx_ok k.1) (by decide +kernel)) ?_
  cases o with
  | none =>
    show sOk ("" : Str) = true
    decide +kernel
  | some x => exact tx_ok (Int.le_trans k.1 (k.2.2 x rfl).1)
theorem wk_win {w : Wn} (k : Wk w) : winB (wD w) = true := win_wD k.1 fun x e => (k.2.2 x e).1
theorem wk_read {w : Wn} (k : Wk w) : readW (fmtW w) = some w := read_fmt k.1 fun x e => (k.2.2 x e).1
theorem fmt_len {w : Wn} (k : Wk w) : (fmtW w).length ≤ 300 := by
  obtain ⟨l, o⟩ := w
  unfold fmtW
  rw [strLen_append, strLen_append, dotLen]
  have h1 : (tx l).length ≤ 130 := tx_len k.1 k.2.1
  cases o with
  | none =>
    have : (hT none).length = 0 := by decide +kernel
    show (tx l).length + 2 + (hT none).length ≤ 300
    omega
  | some x =>
    have hx := k.2.2 x rfl
    have h2 := tx_len (Int.le_trans k.1 hx.1) hx.2
    show (tx l).length + 2 + (tx x).length ≤ 300
    omega
theorem wD_inj {a b : Wn} (h : wD a = wD b) : a = b := by
  obtain ⟨l, o⟩ := a
  obtain ⟨l2, o2⟩ := b
  simp only [wD] at h
  cases o <;> cases o2 <;> simp [hD] at h <;> simp [h]
theorem nd_wD (w : Wn) : (wD w).hasDict = false := by
  obtain ⟨l, o⟩ := w
  cases o <;> rfl
theorem fmt_tok {w : Wn} (k : Wk w) (h : (fmtW w).length ≤ 120) : TOk 120 (fmtW w) :=
  ⟨h, fun c hc => by
    have := List.all_eq_true.mp (fmt_ok k) c hc
    simpa using this⟩
theorem tx_len50 {i : Int} (h0 : 0 ≤ i) (h : i.natAbs < 10 ^ 50) : (tx i).length ≤ 50 := by
  have e : i = ((i.toNat : Nat) : Int) := by omega
  unfold tx
  rw [e, TL.len_tl, TL.tl_num]
  exact TL.numL_len (by decide) (by omega)
/-- a window of the law: small bounds -/
def Ws (w : Wn) : Prop := 0 ≤ w.1 ∧ w.1 ≤ 10 ^ 49 ∧ ∀ x, w.2 = some x → w.1 ≤ x ∧ x ≤ 10 ^ 49 + 20
theorem Ws.wk {w : Wn} (h : Ws w) : Wk w := by
  obtain ⟨h0, h1, h2⟩ := h
  refine ⟨h0, ?_, fun x e => ⟨(h2 x e).1, ?_⟩⟩
  · have : w.1.natAbs ≤ 10 ^ 49 := by omega
    exact Nat.lt_of_le_of_lt this (by decide)
  · have e2 := h2 x e
    have : x.natAbs ≤ 10 ^ 49 + 20 := by omega
    exact Nat.lt_of_le_of_lt this (by decide)
theorem Ws.len {w : Wn} (h : Ws w) : (fmtW w).length ≤ 120 := by
  obtain ⟨l, o⟩ := w
  obtain ⟨h0, h1, h2⟩ := h
  have h0 : 0 ≤ l := h0
  have h1 : l ≤ 10 ^ 49 := h1
  unfold fmtW
  rw [strLen_append, strLen_append, dotLen]
  have a1 : (tx l).length ≤ 50 := tx_len50 h0 (Nat.lt_of_le_of_lt (show l.natAbs ≤ 10 ^ 49 by omega) (by decide))
  cases o with
  | none =>
    have : (hT none).length = 0 := by decide +kernel
    show (tx l).length + 2 + (hT none).length ≤ 120
    omega
  | some x =>
    have hx := h2 x rfl
    have hx1 : l ≤ x := hx.1
    have a2 : (tx x).length ≤ 50 := tx_len50 (Int.le_trans h0 hx1) (Nat.lt_of_le_of_lt (show x.natAbs ≤ 10 ^ 49 + 20 by omega) (by decide))
    show (tx l).length + 2 + (tx x).length ≤ 120
    omega
theorem okWn {w : Wn} (h : Wk w) : Ok2 300 1 (wD w) := by
  obtain ⟨l, o⟩ := w
  obtain ⟨l0, l1, lh⟩ := h
  have l0 : 0 ≤ l := l0
  have l1 : l.natAbs < 10 ^ 130 := l1
  have a1 : Ok2 130 0 (.int l) := (ok3_int l0 l1 (by decide) (by decide)).1
  have a2 : Ok2 130 0 (hD o) := by
    cases o with
    | none => exact (ok3_by (by decide +kernel)).1
    | some x =>
      have e := lh x rfl
      exact (ok3_int (Int.le_trans l0 e.1) e.2 (by decide) (by decide)).1
  exact (ok2_tup (in2 a1 a2)).mono (by show 2 * 130 + 2 * 2 + 3 ≤ 300; decide) (by decide)
theorem shwT {w : Wn} (h : Wk w) : Shw (L2d "told" (wD w)) :=
  (ok2_list (in2 (n := 300) (k := 3) (nmT.mono (by decide) (by decide)) ((okWn h).mono (by decide) (by decide)))).shw (by show 2 * 300 + 2 * 2 + 3 ≤ 12000000; decide) (by decide)
theorem shwX (i : Int) (h : Ok2 80 3 (.int i)) : Shw (L2d "text" (.int i)) := shw2 nmX h
theorem ok0 : Ok2 80 3 (.int 0) := (ok3_by (by decide +kernel)).1
theorem ok1 : Ok2 80 3 (.int 1) := (ok3_by (by decide +kernel)).1
/-- what is due for a text -/
def dueX (z : Str) : PyData := match readW z with
  | none => L2d "text" (.int 1)
  | some w => L2d "told" (wD w)
theorem dueX_none {z : Str} (h : readW z = none) : dueX z = L2d "text" (.int 1) := by unfold dueX; rw [h]
theorem dueX_some {z : Str} {w : Wn} (h : readW z = some w) : dueX z = L2d "told" (wD w) := by unfold dueX; rw [h]
theorem dueX_shw {z : Str} (h : z.length ≤ 130) : Shw (dueX z) := by
  cases q : readW z with
  | none => rw [dueX_none q]; exact shwX 1 ok1
  | some w => rw [dueX_some q]; exact shwT (read_wk q h)
section
variable {T : List (Addr × Str)} {CW CS CV CT : Addr} {σ : L2.St} {H : Hp} {Q : VK} {v1 : V} {d1 : PyData} {i : Nat} {z : Str}
theorem run_pars (hT : Tabs T H) (hz : z.length ≤ 130) (hi : σ[i]? = some (some (.str z)))
    (q : ∀ H', ExtN H H' → Tabs T H' → Q (.str (dueX z).shown) H') :
    tLam T (TT6 CW CS CV CT) (fun E => tCall (spParse CT) [] E (tCons (tVar i) tNil)) σ H Q := by
  refine ⟨hT, fun H1 e1 t1 => ?_⟩
  intro H0 S0 R S herr hok
  have e0 : ExtN H H0 := e1.trans (ExtN.same S0)
  have t0 : Tabs T H0 := t1.ext S0
  have Q0 : ∀ H', Same H0 H' → Q (.str (dueX z).shown) H' := fun H' S' => q H' (e0.trans (ExtN.same S')) (t0.ext S')
  refine ⟨.str z, hi, .str z, .str z, rfl, .str _, fun y ey => ?_, fun h => by cases h⟩
  cases ey
  refine ⟨Nat.le_trans hz (by decide), fun w hw t J S' ht wt => ?_, fun hn J S' dx hdx => ?_⟩
  · rw [dueX_some hw] at Q0
    exact hok _ _ _ wt.da (shwT (read_wk hw hz)) fun H' S2 => Q0 H' (S'.trans S2)
  · rw [dueX_none hn] at Q0
    have S1 := new_same (o := .xd [("line", V.int 1)]) hdx
    exact herr _ _ _ ⟨dx, .int 1, .int 1, "text", "line", rfl, upd_same, .int _, shwX 1 ok1, .inr (.inr (.inr ⟨rfl, rfl, rfl⟩)), fun H' S2 => Q0 H' ((S'.trans S1).trans S2)⟩
theorem run_pars0 (hT : Tabs T H) (h1 : Da H v1 d1) (hs : isStr d1 = false) (hi : σ[i]? = some (some v1))
    (q : ∀ H', ExtN H H' → Tabs T H' → Q (.str (L2d "text" (.int 0)).shown) H') :
    tLam T (TT6 CW CS CV CT) (fun E => tCall (spParse CT) [] E (tCons (tVar i) tNil)) σ H Q := by
  refine ⟨hT, fun H1 e1 t1 => ?_⟩
  intro H0 S0 R S herr hok
  have e0 : ExtN H H0 := e1.trans (ExtN.same S0)
  have t0 : Tabs T H0 := t1.ext S0
  refine ⟨v1, hi, v1, d1, rfl, h1.monoN e0, fun y ey => (by rw [ey] at hs; cases hs), fun _ dx hdx => ?_⟩
  have S1 := new_same (o := .xd [("line", V.int 0)]) hdx
  exact herr _ _ _ ⟨dx, .int 0, .int 0, "text", "line", rfl, upd_same, .int _, shwX 0 ok0, .inr (.inr (.inr ⟨rfl, rfl, rfl⟩)), fun H' S2 => q H' (e0.trans (ExtN.same (S1.trans S2))) (t0.ext (S1.trans S2))⟩
end
abbrev NX : List Str := ["_law_rng_here", "_law_low", "_law_one", "_law_text", "_law_turn", "_law_at", "_law_sign", "_law_found", "_law_due", "_law_odd_here"]
def qX : Str := ("_law_texts_right" : Str) ++ ".<locals>." ++ "<lambda>"
theorem qX_eq (L f : Addr) (cd : Value) : (envOfC "_law_texts_right" (defScope sTexts) L f cd).qual ++ "<lambda>" = qX := rfl
theorem e9 : (10 : Int) ^ (9 : Int).toNat = 10 ^ 9 := rfl
theorem e30 : (10 : Int) ^ (30 : Int).toNat = 10 ^ 30 := rfl
theorem e49 : (10 : Int) ^ (49 : Int).toNat = 10 ^ 49 := rfl
theorem sgnOk : ∀ c ∈ ("0129.. -+_a\n" : Str).cps.toList, c < 1114112 := by decide +kernel
section
variable {P : Program} {w : World} {K : PySem.W.Frag} {mg : Str → Option Value} {base : Heap}
theorem scTs : FnScope NX ["_law_rng_here"] (defScope sTexts) :=
  ⟨rfl, rfl, rfl, by decide +kernel, rfl, by decide +kernel, by decide +kernel⟩
theorem ok_texts {fC fD fF fP fE : Addr} {fdC fdD fdF fdP fdE : FuncData} {f cP tP fT CG CW CS CV CT : Addr} {dV kV dc pm ct oc dV2 kV2 dc2 pm2 cdT ct2 oc2 : Value} {an od an2 od2 : Option Addr} {sl sl2 : Array (Option Value)} {tb : List (Addr × Str)}
    (lk : K.lookup f = some ⟨oc, od, .func (PySem.W.fnOf "_law_texts_right" "_law_texts_right" (defArgs sTexts) (defBody sTexts) (defScope sTexts) dV kV dc pm an (.ref cP) ct), sl⟩)
    (hcd : PySem.W.codeIn K (.ref cP) "_law_texts_right" = true) (T : Txt mg) (T2 : Fam K mg CG CW CS CV CT)
    (TW : XCls P w K mg base "InvalidWindow" CW "value" "value") (TS : XCls P w K mg base "InvalidWindows" CS "position" "position") (TV : XCls P w K mg base "InvalidVersion" CV "value" "value") (TX : XCls P w K mg base "InvalidText" CT "line" "line")
    (lkT : K.lookup fT = some ⟨oc2, od2, .func (PySem.W.fnOf "_law_told" "_law_told" (defArgs sTold) (defBody sTold) (defScope sTold) dV2 kV2 dc2 pm2 an2 cdT ct2), sl2⟩)
    (hcT : PySem.W.codeIn K cdT "_law_told" = true) (kT : PySem.W.keepIn K (.ref fT) = true) (gT : mg "_law_told" = some (.ref fT))
    (bT : Binds K (PySem.W.fnOf "_law_told" "_law_told" (defArgs sTold) (defBody sTold) (defScope sTold) dV2 kV2 dc2 pm2 an2 cdT ct2) ["_law_call"] [])
    (TB : TabB base mg cP tP) (hmT : (tP, qX) ∈ tb) (huT : ∀ p ∈ tb, p.1 = tP → p.2 = qX)
    (GC : FnOk P w K mg base CX0 2 fC fdC ["_law_rng_here", "_law_options"] (spChoice K)) (kC : PySem.W.keepIn K (.ref fC) = true) (bC : Binds K fdC ["_law_rng_here", "_law_options"] []) (gC : mg "_law_choice" = some (.ref fC))
    (GS : FnOk P w K mg base CX0 2 fC fdC ["_law_rng_here", "_law_options"] spChS)
    (GD : FnOk P w K mg base CX0 1 fD fdD ["_law_rng_here", "_law_many"] spDraw) (kD : PySem.W.keepIn K (.ref fD) = true) (bD : Binds K fdD ["_law_rng_here", "_law_many"] []) (gD : mg "_law_draw" = some (.ref fD))
    (GF : FnOk P w K mg base (L2.CX P w) 4 fF fdF ["window"] (spFmt CW)) (kF : PySem.W.keepIn K (.ref fF) = true) (bF : Binds K fdF ["window"] []) (gF : mg "format_window" = some (.ref fF))
    (qF : ∀ (s : Shared) (ws : List Value), ws.length = 1 → BindsTo s fdF ⟨[], (["window"] : List Str).zip ws⟩ ((["window"] : List Str).zip (id ws)))
    (GP : FnOk P w K mg base (L2.CX P w) 3 fP fdP ["text"] (spParse CT)) (kP : PySem.W.keepIn K (.ref fP) = true) (bP : Binds K fdP ["text"] []) (gP : mg "parse_window" = some (.ref fP))
    (GE : FnOk P w K mg base CX0 2 fE fdE ["_law_text"] spRead) (kE : PySem.W.keepIn K (.ref fE) = true) (bE : Binds K fdE ["_law_text"] []) (gE : mg "_law_read" = some (.ref fE)) :
    FnG P w K mg base CX0 9 f (PySem.W.fnOf "_law_texts_right" "_law_texts_right" (defArgs sTexts) (defBody sTexts) (defScope sTexts) dV kV dc pm an (.ref cP) ct) ["_law_rng_here"] (spPart tb) := by
  refine fn_ofG lk hcd scTs (fun vs H Q E h => ?_) (fun A outer s H vs Q E gd hr h => ?_)
  · obtain ⟨r, rfl, _⟩ := h
    rfl
  · obtain ⟨r, rfl, R0, t0, q⟩ := h
    have hrM : Room 8 _ := hr
    have hrC : Room 2 _ := hr.mono (by decide)
    have hrD : Room 1 _ := hr.mono (by decide)
    have hrF : Room 4 _ := hr.mono (by decide)
    have hrP : Room 3 _ := hr.mono (by decide)
    have hrE : Room 2 _ := hr.mono (by decide)
    have nd := scTs.nd
    have hmT' : (tP, (envOfC "_law_texts_right" (defScope sTexts) s.heap.objs.size f (.ref cP)).qual ++ "<lambda>") ∈ tb := by rw [qX_eq]; exact hmT
    have huT' : ∀ p ∈ tb, p.1 = tP → p.2 = (envOfC "_law_texts_right" (defScope sTexts) s.heap.objs.size f (.ref cP)).qual ++ "<lambda>" := by rw [qX_eq]; exact huT
    have hu : (A.deeper (envOfC "_law_texts_right" (defScope sTexts) s.heap.objs.size f (.ref cP))).units + 200 < cLine := by have := hr.un; omega
    have body : ∃ t, PSs (cxOf CX0 P w K mg base NX "_law_texts_right" (defScope sTexts) f (.ref cP) A outer s H E).nox (defBody sTexts) t ∧
        t { nx := fun _ J => Q .non J, rt := Q } (start NX [.ref r]) H := by
      refine ⟨_, pss_cons (ps_set (i := 1) nd rfl (Or.inl rfl) (pe_call GC hrC (by rfl) gC kC bC .nil pass0 (pa_cons (pv 0) (pa_cons (pe_lst (pa_cons pe_int (pa_cons (pe_call GD hrD (by rfl) gD kD bD .nil pass0 (pa_cons (pv 0) (pa_cons pe_int pa_nil))) (pa_cons (pe_call GD hrD (by rfl) gD kD bD .nil pass0 (pa_cons (pv 0) (pa_cons pe_int pa_nil))) (pa_cons (pe_op op_pow pe_int pe_int) (pa_cons (pe_op op_pow pe_int pe_int) (pa_cons (pe_op op_pow pe_int pe_int) pa_nil))))))) pa_nil))))
        (pss_cons (ps_set (i := 2) nd rfl (Or.inl rfl) (pe_tup (pa_cons (pv 1) (pa_cons (pe_ix ix_list (pe_lst (pa_cons pe_non (pa_cons (pv 1) (pa_cons (pe_op op_add (pv 1) (pe_call GD hrD (by rfl) gD kD bD .nil pass0 (pa_cons (pv 0) (pa_cons pe_int pa_nil)))) pa_nil)))) (pe_call GD hrD (by rfl) gD kD bD .nil pass0 (pa_cons (pv 0) (pa_cons pe_int pa_nil))) (fun _ _ => rfl)) pa_nil))))
        (pss_cut (ps_set (i := 3) nd rfl (Or.inr rfl) (pe_op op_add_str (pe_op op_add_str (pe_callTy call_str_int (by rfl) T.str (by decide +kernel) (pa_cons (pe_ix ix_tup (pv 2) pe_int (fun _ _ => rfl)) pa_nil)) pe_str) (pe_ifExp (pt_cmp (pc_isN (pe_ix ix_tup (pv 2) pe_int (fun _ _ => rfl)))) pe_str (pe_callTy call_str_int (by rfl) T.str (by decide +kernel) (pa_cons (pe_ix ix_tup (pv 2) pe_int (fun _ _ => rfl)) pa_nil)))))
        (pss_cons (ps_if (PW.pt (pw_or (pt_cmpR (op_neD hr.units) (pe_lst (pa_cons (pe_call GF hrF (by rfl) gF kF bF .nil passL (pa_cons (pv 2) pa_nil)) (pa_cons (pe_callKw (m := 1) (ks := ["window"]) id id GF hrF (by rfl) gF kF qF (fun _ _ _ r => r) passL (pk_cons (pv 2) pk_nil)) pa_nil))) (pe_lst (pa_cons (pv 3) (pa_cons (pv 3) pa_nil))) (nomark _)) (pw_or1 (pt_cmpR (op_neD hr.units) (pe_call GP hrP (by rfl) gP kP bP .nil passL (pa_cons (pv 3) pa_nil)) (pv 2) (nomark _))))) (pss_one (ps_ret pe_bl)) pss_nil)
        (pss_cons (ps_for PassesOwn.never rfl (pi_range1 (by rfl) T.range (pa_cons (pe_call GD hrD (by rfl) gD kD bD .nil pass0 (pa_cons (pv 0) (pa_cons pe_int pa_nil))) pa_nil)) (pg_name (i := 4) nd rfl (Or.inl rfl))
          (pss_cons (ps_par (by rfl) nd (i := 5) (j := 6) rfl rfl (by decide) rfl rfl (pa_cons (pe_call GD hrD (by rfl) gD kD bD .nil pass0 (pa_cons (pv 0) (pa_cons (pe_op op_add (pe_callB call_len_str (by rfl) T.len PySem.boot_len (pa_cons (pv 3) pa_nil)) pe_int) pa_nil))) (pa_cons (pe_call GS hrC (by rfl) gC kC bC .nil pass0 (pa_cons (pv 0) (pa_cons pe_str pa_nil))) pa_nil)) (by rfl))
          (pss_one (ps_set (i := 3) nd rfl (Or.inr rfl) (pe_op op_add_str (pe_op op_add_str (pe_slice sl_str (pv 3) po_none (po_some (pv 5))) (pe_ix ix_list (pe_lst (pa_cons (pv 6) (pa_cons pe_str pa_nil))) (pe_call GD hrD (by rfl) gD kD bD .nil pass0 (pa_cons (pv 0) (pa_cons pe_int pa_nil))) (fun _ _ => rfl))) (pe_slice sl_str (pv 3) (po_some (pe_op op_add (pv 5) (pe_call GD hrD (by rfl) gD kD bD .nil pass0 (pa_cons (pv 0) (pa_cons pe_int pa_nil))))) po_none))))))
        (pss_cut3 (ps_set (i := 7) nd rfl (Or.inl rfl) (pe_call GE hrE (by rfl) gE kE bE .nil pass0 (pa_cons (pv 3) pa_nil)))
        (ps_set (i := 8) nd rfl (Or.inl rfl) (pe_ifExp (pt_cmp (pc_isN (pv 7))) (pe_lstS (pa_cons pe_str (pa_cons pe_int pa_nil))) (pe_lstS (pa_cons pe_str (pa_cons (pv 7) pa_nil)))))
        (ps_if (pt_cmpR op_ne (pe_lamS (T := tb) (TT := TT6 CW CS CV CT) (Ng := NT) (k := 6) (t := fun E => tCall (spParse CT) [] E (tCons (tVar 3) tNil)) (by rfl) gT kT lkT hcT bT scTo rfl (.inl rfl) (told_gives gd hu T T2 TW TS TV TX) TB rfl hmT' huT' hrM (lamS_by (sc := defScope sTexts) (by decide +kernel)) (by rfl) (fun _ _ _ _ _ => by rfl)
            (fun A ou s H E f c' _ hrl => pe_call GP (hrl.mono (by decide)) (by rfl) gP kP bP .nil lam_pass (pa_cons (pv 3) pa_nil))) (pe_callB (call_repS gd hr.units) (by rfl) T.repr (by decide +kernel) (pa_cons (pv 8) pa_nil)) (nomark _)) (pss_one (ps_ret pe_bl)) pss_nil)
        (pss_cons (ps_set (i := 9) nd rfl (Or.inr rfl) (pe_call GC hrC (by rfl) gC kC bC .nil pass0 (pa_cons (pv 0) (pa_cons (pe_lst (pa_cons pe_non (pa_cons pe_int (pa_cons pe_bl (pa_cons (pe_lstS pa_nil) (pa_cons (pe_tup pa_nil) (pa_cons pe_dnewK (pa_cons (pe_tup (pa_cons pe_int (pa_cons pe_int pa_nil))) (pa_cons (pe_lstS (pa_cons pe_str pa_nil)) pa_nil))))))))) pa_nil))))
        (pss_one (ps_ret (pe_cmpR op_eq (pe_lamS (T := tb) (TT := TT6 CW CS CV CT) (Ng := NT) (k := 6) (t := fun E => tCall (spParse CT) [] E (tCons (tVar 9) tNil)) (by rfl) gT kT lkT hcT bT scTo rfl (.inl rfl) (told_gives gd hu T T2 TW TS TV TX) TB rfl hmT' huT' hrM (lamS_by (sc := defScope sTexts) (by decide +kernel)) (by rfl) (fun _ _ _ _ _ => by rfl)
            (fun A ou s H E f c' _ hrl => pe_call GP (hrl.mono (by decide)) (by rfl) gP kP bP .nil lam_pass (pa_cons (pv 9) pa_nil))) (pe_callB (call_repS gd hr.units) (by rfl) T.repr (by decide +kernel) (pa_cons (pe_lstS (pa_cons pe_str (pa_cons pe_int pa_nil))) pa_nil)) (nomark _)))))))))), ?_⟩
      refine ⟨_, rfl, _, rfl, r, _, rfl, R0, by decide, by decide, fun n1 J1 E1 R1 a0 a1 => ?_⟩
      refine ⟨_, rfl, r, _, rfl, R1, by decide, by decide, fun n2 J2 E2 R2 b0 b1 => ?_⟩
      refine ⟨_, _, rfl, rfl, ⟨by decide, by decide, by decide⟩, _, _, rfl, rfl, ⟨by decide, by decide, by decide⟩, _, _, rfl, rfl, ⟨by decide, by decide, by decide⟩, (by show 6 ≤ sizeLine; decide), fun p3 hp3 => ?_⟩
      obtain ⟨J3, j3, S3, U3, R3, k3, g3⟩ := stp (o := .lst ([.int 0, .int n1, .int n2, .int (10 ^ (9 : Int).toNat), .int (10 ^ (30 : Int).toNat), .int (10 ^ (49 : Int).toNat)] : List V)) R2 hp3
      have j3' : upd J2 p3 (.lst [V.int 0, .int n1, .int n2, .int (10 ^ (9 : Int).toNat), .int (10 ^ (30 : Int).toNat), .int (10 ^ (49 : Int).toNat)]) = J3 := j3
      rw [j3']
      have mem : ∀ v ∈ ([.int 0, .int n1, .int n2, .int (10 ^ (9 : Int).toNat), .int (10 ^ (30 : Int).toNat), .int (10 ^ (49 : Int).toNat)] : List V), ∃ x : Int, v = .int x ∧ 0 ≤ x ∧ x ≤ 10 ^ 49 := by
        refine List.forall_mem_cons.2 ⟨⟨_, rfl, by decide, by decide⟩, List.forall_mem_cons.2 ⟨⟨_, rfl, a0, ?_⟩, List.forall_mem_cons.2 ⟨⟨_, rfl, b0, ?_⟩, List.forall_mem_cons.2 ⟨⟨_, rfl, ?_, ?_⟩, List.forall_mem_cons.2 ⟨⟨_, rfl, ?_, ?_⟩, List.forall_mem_cons.2 ⟨⟨_, rfl, ?_, ?_⟩, fun v hv => by cases hv⟩⟩⟩⟩⟩⟩
        · omega
        · omega
        · rw [e9]; decide
        · rw [e9]; decide
        · rw [e30]; decide
        · rw [e30]; decide
        · rw [e49]; decide
        · rw [e49]; decide
      refine ⟨r, _, _, rfl, R3, SqL.of k3, R3.ne k3 (fun _ _ z => by cases z), (by show 0 < 6; decide), (by show 6 ≤ 1000; decide), fun vl J4 E4 R4 hvl => ?_⟩
      obtain ⟨l, rfl, l0, l1⟩ := mem vl hvl
      have X4 : Ext r H J4 := ((E1.trans E2).trans (Ext.of S3)).trans E4
      have t4 : Tabs tb J4 := tabs_ext ((tabs_ext (tabs_ext t0 E1 R0) E2 R1).ext S3) E4 R3
      clear mem hvl j3 j3' k3 g3 U3 S3 hp3
      refine ⟨_, rfl, _, rfl, _, rfl, _, rfl, r, _, rfl, R4, by decide, by decide, fun n5 J5 E5 R5 c0 c1 => ?_⟩
      refine ⟨_, _, rfl, rfl, (by show 3 ≤ sizeLine; decide), fun p6 hp6 => ?_⟩
      obtain ⟨J6, j6, S6, U6, R6, k6, g6⟩ := stp (o := .lst ([.non, .int l, .int (l + n5)] : List V)) R5 hp6
      rw [j6]
      refine ⟨_, rfl, r, _, rfl, R6, by decide, by decide, fun n7 J7 E7 R7 f0 f1 => ?_⟩
      have k7 : J7 p6 = some (.lst [.non, .int l, .int (l + n5)]) := E7 _ _ (R6.ne k6 (fun _ _ z => by cases z)) k6
      obtain ⟨o, ho, hw⟩ : ∃ o : Option Int, ([V.non, .int l, .int (l + n5)] : List V)[n7.toNat]? = some (hV o) ∧ Ws (l, o) := by
        have h3 : n7 = 0 ∨ n7 = 1 ∨ n7 = 2 := by omega
        rcases h3 with rfl | rfl | rfl
        · exact ⟨none, rfl, l0, l1, fun x e => by cases e⟩
        · exact ⟨some l, rfl, l0, l1, fun x e => by cases e; exact ⟨Int.le_refl _, by show l ≤ 10 ^ 49 + 20; omega⟩⟩
        · exact ⟨some (l + n5), rfl, l0, l1, fun x e => by cases e; exact ⟨by show l ≤ l + n5; omega, by show l + n5 ≤ 10 ^ 49 + 20; omega⟩⟩
      refine ⟨p6, _, _, _, rfl, rfl, SqL.of k7, at_in f0 ho, (by show 2 ≤ sizeLine; decide), fun t8 ht8 => ?_⟩
      obtain ⟨J8, j8, S8, U8, R8, k8, g8⟩ := stp (o := .tup [V.int l, hV o]) R7 ht8
      rw [j8]
      have wk := hw.wk
      have t8' : Tabs tb J8 := (tabs_ext ((tabs_ext t4 E5 R4).ext S6) E7 R6).ext S8
      have X8 : ExtR r H J8 := ExtR.ext ((((X4.trans E5).trans (Ext.of S6)).trans E7).trans (Ext.of S8))
      have wt : WinAt J8 t8 (l, o) := k8
      clear ho k7 k6 g6 k8 g8 j8 j6 hp6 ht8 E7 E5 S6 S8 U6 U8
      have a1 : (tx l).length ≤ 200 := Nat.le_trans (tx_len wk.1 wk.2.1) (by decide)
      have a2 : DOT.length = 2 := dotLen
      have a3 : (tx l ++ DOT : Str).length ≤ 202 := by rw [strLen_append]; omega
      refine ⟨fun σ J => J = J8 ∧ σ = [some (.ref r), some (.int l), some (.ref t8), some (.str (fmtW (l, o))), none, none, none, none, none, none], ?_, ?_⟩
      rotate_left
      · refine ⟨_, rfl, t8, _, _, _, rfl, rfl, SqT.of wt, rfl, _, rfl, lg_ok wk.2.1, _, _, rfl, rfl, by show (tx l).length + DOT.length ≤ _; rw [sizeLine_eq]; omega, ?_⟩
        refine ⟨_, rfl, t8, _, _, _, rfl, rfl, SqT.of wt, rfl, _, rfl, ?_⟩
        cases o with
        | none => exact iteT ⟨_, _, rfl, rfl, by show (tx l ++ DOT : Str).length + 0 ≤ _; rw [sizeLine_eq]; omega, rfl, rfl⟩
        | some x =>
          have wx := wk.2.2 x rfl
          have c1 : (tx x).length ≤ 200 := Nat.le_trans (tx_len (Int.le_trans wk.1 wx.1) wx.2) (by decide)
          exact iteF ⟨_, rfl, t8, _, _, _, rfl, rfl, SqT.of wt, rfl, _, rfl, lg_ok wx.2, _, _, rfl, rfl, by show (tx l ++ DOT : Str).length + (tx x).length ≤ _; rw [sizeLine_eq]; omega, rfl, rfl⟩
      · rintro σ J ⟨rfl, rfl⟩
        have okf := fmt_ok wk
        refine ⟨_, rfl, _, wD (l, o), rfl, wt.da, fun w2 e2 hb => ?_, fun hb => by rw [wk_win wk] at hb; cases hb⟩
        obtain rfl := wD_inj e2
        refine ⟨wk, _, rfl, rfl, _, wD (l, o), rfl, wt.da, fun w2 e2 hb => ?_, fun hb => by rw [wk_win wk] at hb; cases hb⟩
        obtain rfl := wD_inj e2
        refine ⟨wk, (by show 2 ≤ sizeLine; decide), fun p9 hp9 => ?_⟩
        obtain ⟨J9, j9, S9, k9⟩ := mk (o := .lst [V.str (fmtW (l, o)), V.str (fmtW (l, o))]) hp9
        rw [j9]
        refine ⟨_, rfl, _, rfl, (by show 2 ≤ sizeLine; decide), fun p10 hp10 => ?_⟩
        obtain ⟨J10, j10, S10, k10⟩ := mk (o := .lst [V.str (fmtW (l, o)), V.str (fmtW (l, o))]) hp10
        rw [j10]
        refine ⟨_, _, .lst (SqL.of (S10 _ _ k9)) (.cons (.str _) (.cons (.str _) .nil)), .lst (SqL.of k10) (.cons (.str _) (.cons (.str _) .nil)), shP okf, shP okf, _, rfl, ?_⟩
        rw [PySem.SeqAt.eqv_refl _ (layP okf)]
        have wt10 : WinAt J10 t8 (l, o) := S10 _ _ (S9 _ _ wt)
        refine iteF ⟨_, rfl, _, _, rfl, .str _, fun y ey => ?_, fun h => by cases h⟩
        cases ey
        refine ⟨Nat.le_trans hw.len (by decide), fun w2 hw2 t11 J11 S11 ht11 wt11 => ?_, fun h => by rw [wk_read wk] at h; cases h⟩
        rw [wk_read wk] at hw2
        cases hw2
        have wt12 : WinAt J11 t8 (l, o) := S11 _ _ wt10
        refine ⟨_, rfl, wD (l, o), wD (l, o), Da.dp wt11.da (nd_wD _), Da.dp wt12.da (nd_wD _), shD _, shD _, _, rfl, ?_⟩
        rw [PySem.SeqAt.eqv_refl _ (layD _)]
        refine iteF ?_
        have S811 := (S9.trans S10).trans S11
        have R11 := R8.same S811
        refine ⟨_, rfl, r, _, rfl, R11, by decide, by decide, fun n12 J12 E12 R12 d0 d1 => ?_⟩
        refine ⟨_, rfl, by omega, by omega, ?_⟩
        refine for_range (lo := 0) (n := n12.toNat) (fun i σ J => ∃ c1 c2 c4 c5 c6 z, σ = [some (.ref r), c1, c2, some (.str z), c4, c5, c6, none, none, none] ∧ TOk (120 + i) z ∧ ExtR r H J ∧ Rng J r ∧ Tabs tb J)
          ⟨_, _, _, _, _, _, rfl, fmt_tok wk hw.len, X8.trans (ExtR.ext ((Ext.of S811).trans E12)), R12, tabs_ext (t8'.ext S811) E12 R11⟩ ?_ ?_
        · rintro m σ J13 hm ⟨c1, c2, c4, c5, c6, z, rfl, tz, X13, R13, t13⟩
          have zl : z.length ≤ sizeLine := Nat.le_trans tz.1 (by rw [sizeLine_eq]; omega)
          have zl2 := tz.1
          refine ⟨_, rfl, _, rfl, z, rfl, zl, _, _, rfl, rfl, r, _, rfl, R13, by omega, by omega, fun n14 J14 E14 R14 x0 x1 => ?_⟩
          refine ⟨_, rfl, r, _, rfl, R14, (by decide +kernel), (by decide +kernel), fun c J15 E15 R15 hc => ?_⟩
          refine ⟨_, _, rfl, ?_⟩
          obtain ⟨i, rfl⟩ : ∃ i : Nat, n14 = (i : Int) := ⟨n14.toNat, by omega⟩
          have s1 := cut_split z i
          have s2 := cut_drop z i
          have u1 := tz.cut none (some (i : Int))
          refine ⟨_, rfl, _, rfl, _, rfl, z, rfl, zl, _, rfl, (by show 2 ≤ sizeLine; decide), fun p16 hp16 => ?_⟩
          obtain ⟨J16, j16, S16, U16, R16, k16, g16⟩ := stp (o := .lst [V.str ⟨#[c]⟩, V.str ""]) R15 hp16
          rw [j16]
          refine ⟨_, rfl, r, _, rfl, R16, by decide, by decide, fun n17 J17 E17 R17 y0 y1 => ?_⟩
          have k17 := E17 _ _ (R16.ne k16 (fun _ _ z => by cases z)) k16
          obtain ⟨y, hy, ty⟩ : ∃ y : Str, ([V.str ⟨#[c]⟩, V.str ""] : List V)[n17.toNat]? = some (.str y) ∧ TOk 1 y := by
            have h2 : n17 = 0 ∨ n17 = 1 := by omega
            rcases h2 with rfl | rfl
            · exact ⟨_, rfl, TOk.one (sgnOk c hc)⟩
            · exact ⟨_, rfl, by decide +kernel, by decide +kernel⟩
          have l1 := ty.1
          refine ⟨p16, _, _, _, rfl, rfl, SqL.of k17, at_in y0 hy, _, _, rfl, rfl, by rw [sizeLine_eq]; omega, ?_⟩
          refine ⟨_, rfl, _, rfl, _, rfl, r, _, rfl, R17, by decide, by decide, fun n18 J18 E18 R18 w0 w1 => ?_⟩
          refine ⟨_, _, rfl, rfl, _, rfl, z, rfl, zl, ?_⟩
          have X18 : ExtR r H J18 := X13.trans (ExtR.ext ((((E14.trans E15).trans (Ext.of S16)).trans E17).trans E18))
          have t18 : Tabs tb J18 := tabs_ext (tabs_ext ((tabs_ext (tabs_ext t13 E14 R13) E15 R14).ext S16) E17 R16) E18 R17
          have u2 := tz.cut (some ((i : Int) + n18)) none
          have len : (cutS z none (some (i : Int))).length + (cutS z (some ((i : Int) + n18)) none).length ≤ z.length := by
            have h2 : n18 = 0 ∨ n18 = 1 := by omega
            rcases h2 with rfl | rfl
            · rw [Int.add_zero]; exact s1
            · exact s2
          refine ⟨_, _, rfl, rfl, by rw [strLen_append, sizeLine_eq]; omega, ?_⟩
          exact ⟨_, _, _, _, _, _, rfl, ⟨by rw [strLen_append, strLen_append]; omega, ((u1.app ty).app u2).2⟩, X18, R18, t18⟩
        · rintro σ J13 ⟨c1, c2, c4, c5, c6, z, rfl, tz, X13, R13, t13⟩
          have zl : z.length ≤ 130 := by have := tz.1; omega
          have tz6 : TOk 600 z := tz.mono (by omega)
          refine ⟨fun σ J => ∃ c1 c2 c4 c5 c6 c7 c8, σ = [some (.ref r), c1, c2, some (.str z), c4, c5, c6, c7, c8, none] ∧ ExtR r H J ∧ Rng J r ∧ Tabs tb J, ?_, ?_⟩
          rotate_left
          · refine ⟨_, rfl, z, rfl, tz6, fun J14 S14 hn => ?_, fun w2 t14 J14 S14 hs wt14 => ?_⟩
            · refine ⟨_, rfl, _, rfl, iteT ⟨(by show 2 ≤ sizeLine; decide), fun p15 hp15 np15 => ?_⟩⟩
              obtain ⟨J15, j15, S15, k15⟩ := mk (o := .lst [V.str "text", V.int 1]) hp15
              rw [j15]
              have S := S14.trans S15
              refine run_pars (t13.ext S) zl rfl (fun J16 e16 t16 => ?_)
              have D : Da J16 (.ref p15) (dueX z) := by
                rw [dueX_none hn]
                exact (Da.lst np15 k15 (.cons (.str _) (.cons (.int _) .nil))).monoN e16
              refine ⟨_, rfl, _, dueX z, rfl, D, dueX_shw zl, rfl, _, rfl, ?_⟩
              rw [decide_eq_true rfl]
              exact iteF ⟨_, _, _, _, _, _, _, rfl, (X13.trans (ExtR.ext (Ext.of S))).trans (ExtR.extN e16), (R13.same S).extN e16, t16⟩
            · refine ⟨_, rfl, _, rfl, iteF ⟨_, rfl, (by show 2 ≤ sizeLine; decide), fun p15 hp15 np15 => ?_⟩⟩
              obtain ⟨J15, j15, S15, k15⟩ := mk (o := .lst [V.str "told", V.ref t14]) hp15
              rw [j15]
              have S := S14.trans S15
              have wt15 : WinAt J15 t14 w2 := S15 _ _ wt14
              refine run_pars (t13.ext S) zl rfl (fun J16 e16 t16 => ?_)
              have D : Da J16 (.ref p15) (dueX z) := by
                rw [dueX_some hs]
                exact (Da.lst np15 k15 (.cons (.str _) (.cons wt15.da .nil))).monoN e16
              refine ⟨_, rfl, _, dueX z, rfl, D, dueX_shw zl, rfl, _, rfl, ?_⟩
              rw [decide_eq_true rfl]
              exact iteF ⟨_, _, _, _, _, _, _, rfl, (X13.trans (ExtR.ext (Ext.of S))).trans (ExtR.extN e16), (R13.same S).extN e16, t16⟩
          · clear X13 R13 t13
            rintro σ J13 ⟨c1, c2, c4, c5, c6, c7, c8, rfl, X13, R13, t13⟩
            refine ⟨_, rfl, (by show 0 ≤ sizeLine; decide), fun q1 hq1 nq1 => ?_⟩
            obtain ⟨L1, l1', s1, u1, r1, k1, g1⟩ := stp (o := .lst ([] : List V)) R13 hq1
            rw [l1']
            refine ⟨(by show 0 ≤ sizeLine; decide), fun q2 hq2 => ?_⟩
            obtain ⟨L2, l2', s2, u2, r2, k2, g2⟩ := stp (o := .tup ([] : List V)) r1 hq2
            rw [l2']
            refine fun q3 hq3 => ?_
            obtain ⟨L3, l3', s3, u3, r3, k3, g3⟩ := stp (o := .dK ([] : List (Key × V))) r2 hq3
            rw [l3']
            refine ⟨(by show 2 ≤ sizeLine; decide), fun q4 hq4 => ?_⟩
            obtain ⟨L4, l4', s4, u4, r4, k4, g4⟩ := stp (o := .tup ([.int 0, .int 1] : List V)) r3 hq4
            rw [l4']
            refine ⟨(by show 1 ≤ sizeLine; decide), fun q5 hq5 nq5 => ?_⟩
            obtain ⟨L5, l5', s5, u5, r5, k5, g5⟩ := stp (o := .lst ([.str "0..1"] : List V)) r4 hq5
            rw [l5']
            refine ⟨(by show 8 ≤ sizeLine; decide), fun q6 hq6 => ?_⟩
            obtain ⟨L6, l6', s6, u6, r6, k6, g6⟩ := stp (o := .lst ([.non, .int 0, .bl true, .ref q1, .ref q2, .ref q3, .ref q4, .ref q5] : List V)) r5 hq6
            rw [l6']
            have mem : ∀ v ∈ ([.non, .int 0, .bl true, .ref q1, .ref q2, .ref q3, .ref q4, .ref q5] : List V), ∃ d : PyData, Da (hide r L6) v d ∧ isStr d = false :=
              List.forall_mem_cons.2 ⟨⟨.none, .non, rfl⟩, List.forall_mem_cons.2 ⟨⟨.int 0, .int _, rfl⟩, List.forall_mem_cons.2 ⟨⟨.bool true, .bl _, rfl⟩,
              List.forall_mem_cons.2 ⟨⟨.list [], (Da.lst nq1 g1 .nil).mono (u2.trans (u3.trans (u4.trans (u5.trans u6)))), rfl⟩,
              List.forall_mem_cons.2 ⟨⟨.tuple [], (Da.tup g2 .nil).mono (u3.trans (u4.trans (u5.trans u6))), rfl⟩,
              List.forall_mem_cons.2 ⟨⟨.dict [], (Da.dic g3 .nil).mono (u4.trans (u5.trans u6)), rfl⟩,
              List.forall_mem_cons.2 ⟨⟨.tuple [.int 0, .int 1], (Da.tup g4 (.cons (.int _) (.cons (.int _) .nil))).mono (u5.trans u6), rfl⟩,
              List.forall_mem_cons.2 ⟨⟨.list [.str "0..1"], (Da.lst nq5 g5 (.cons (.str _) .nil)).mono u6, rfl⟩, fun v hv => by cases hv⟩⟩⟩⟩⟩⟩⟩⟩
            refine ⟨r, _, _, rfl, r6, SqL.of k6, r6.ne k6 (fun _ _ z => by cases z), (by show 0 < 8; decide), (by show 8 ≤ 1000; decide), fun vo J7 E7 R7 hvo => ?_⟩
            obtain ⟨d, hd, hns⟩ := mem vo hvo
            have S16 := s1.trans (s2.trans (s3.trans (s4.trans (s5.trans s6))))
            have t7 : Tabs tb J7 := tabs_ext (t13.ext S16) E7 r6
            refine run_pars0 t7 ((hd.mono (hide_ext E7)).mono (hide_same r J7)) hns rfl (fun J8 e8 t8 => ?_)
            refine ⟨(by show 2 ≤ sizeLine; decide), fun p9 hp9 np9 => ?_⟩
            obtain ⟨J9, j9, S9, k9⟩ := mk (o := .lst [V.str "text", V.int 0]) hp9
            rw [j9]
            refine ⟨_, L2d "text" (.int 0), rfl, .lst np9 k9 (.cons (.str _) (.cons (.int _) .nil)), shwX 0 ok0, rfl, ?_⟩
            rw [decide_eq_true rfl]
            exact q J9 (((X13.trans (ExtR.ext ((Ext.of S16).trans E7))).trans (ExtR.extN e8)).trans (ExtR.ext (Ext.of S9))) ((R7.extN e8).same S9) (t8.ext S9)
    obtain ⟨t, p, rd⟩ := body
    exact ⟨t, p.nox, rd⟩
end
end N6
set_option maxHeartbeats 4000000
namespace G
open PySem PySem.Spec PyProof.Rows L2 LamX
/-- repr of a list at any place, its items data -/
theorem rep_list {prog : Program} {w : World} {A : Around} {E : Value → Shared → Prop} {s : Shared} {Q : Value → Shared → Prop} {a : Addr} {c : Nat}
    {us : List Value} {ds : List PyData} {as : List Addr} (ho : s.heap.get? a = some { cls := .type "list", data := .seq us.toArray c }) (rd : ReadsAll s.heap us ds as)
    (no : sysModules ∉ as) (hs : (PyData.list ds).showable = true) (hz : (PyData.list ds).shown.length ≤ sizeLine) (hg : A.guards = some [])
    (hu : A.units + ((PyData.list ds).depth + 1) < cLine)
    (hQ : ∀ h' u tk, (∀ b o, s.heap.get? b = some o → h'.get? b = some o) → Q (.str (PyData.list ds).shown u) { s with heap := h', toks := tk }) :
    wpAny (model prog w) A (call (.builtin "repr") [.ref a]) Q E s := by
  have zz : (listText (PyData.shownAll ds)).length ≤ sizeLine := hz
  have top : Reads s.heap (.ref a) (.list ds) (a :: as) := .list (vs := us.toArray) ho rfl rfl (by simpa using rd)
  obtain ⟨bs, hb, hk⟩ := ReprAllK.of_readsAll (prog := prog) (w := w) rd (by simpa [PyData.showable] using hs) (fun _ => no) (fun t ht => Nat.le_trans (listText_mem_le ht) zz)
  have out : a ∉ bs := not_mem_of_deeper top (by simp only [PyData.depth]; omega) hb
  have hu2 : A.units + 1 + PyData.depthAll ds + 1 < cLine := by
    simp only [PyData.depth] at hu
    omega
  refine call_repr_slot (by omega) ⟨_, ho, rfl⟩ F.slot_list_repr.toG ?_
  cases us with
  | nil =>
    cases rd
    refine call_list_repr_empty ⟨_, ho, rfl⟩ ho rfl ?_
    exact ⟨_, _, rfl, hQ s.heap _ _ fun _ _ e => e⟩
  | cons x l =>
    exact call_list_reprK ho rfl rfl out (by simpa using hk.length_eq) (fun i y e => hk.item i y (by simpa using e)) hg (fun b _ => Clear.nil b) (by show A.units + 1 + _ < cLine; omega) (fun _ _ e => e)
      (fun h' u tk k => ⟨_, _, rfl, hQ h' u tk k⟩) zz
end G
namespace N6
open PySem PySem.Spec PyProof.Rows L2 G N4 LamX
theorem call_repL {X : Cx} (gd : X.A.guards = some []) (hu : X.A.units + 64 < cLine) :
    CallR X (.builtin "repr") (fun xs H Q => ∃ (v : V) (d : PyData), xs = [v] ∧ DaL H v d ∧ Shw d ∧ Q (.str d.shown) H) := by
  intro pins s σ H xs us Q I r h
  obtain ⟨v, d, rfl, hd, sh, q⟩ := h
  rcases hd with hd | ⟨a, ys, ds, rfl, rfl, h1, h2⟩
  · exact call_repS gd hu pins s σ H [v] us Q I r ⟨v, d, rfl, hd, sh, q⟩
  · obtain ⟨u, rfl, rv⟩ := vals1 r
    obtain rfl : u = Value.ref a := rv
    obtain ⟨_, its, m, rl, ho⟩ := (show ObjOk X.prog X.w H s.heap a (.lst ys) from I.hok a _ h1)
    obtain ⟨as, rd, no⟩ := h2.reads I rl
    have dp := sh.2.1
    exact rep_list ho rd no sh.1 sh.2.2 gd (by omega) fun h' u tk k => ⟨.str _, H, I.kept k, ⟨_, rfl⟩, q⟩
/-- the first that is no window -/
def fBad (ds : List PyData) : Option Nat := fIdx (ds.map fun x => !winB x)
theorem at_map {ds : List PyData} {f : PyData → Bool} {j : Nat} {x : PyData} (h : ds[j]? = some x) : at' (ds.map f) j = f x := by
  unfold at'
  rw [List.getD_eq_getElem?_getD, List.getElem?_map, h]
  rfl
theorem fIdx_inv {bs : List Bool} {i : Nat} (h : fIdx bs = some i) : i < bs.length ∧ at' bs i = true ∧ ∀ j < i, at' bs j = false := by
  unfold fIdx at h
  rw [List.find?_range_eq_some] at h
  obtain ⟨h1, h2, h3⟩ := h
  exact ⟨by simpa using h2, h1, fun j hj => by simpa using h3 j hj⟩
theorem fIdx_no {bs : List Bool} (h : fIdx bs = none) : ∀ j < bs.length, at' bs j = false := by
  unfold fIdx at h
  rw [List.find?_eq_none] at h
  intro j hj
  simpa using h j (List.mem_range.mpr hj)
theorem fBad_some {ds : List PyData} {i : Nat} (h : fBad ds = some i) : Bad ds i ∧ i < ds.length := by
  obtain ⟨h1, h2, h3⟩ := fIdx_inv h
  have hl : i < ds.length := by simpa using h1
  refine ⟨⟨⟨ds[i], by simp [hl], ?_⟩, fun j hj x hx => ?_⟩, hl⟩
  · rw [at_map (x := ds[i]) (by simp [hl])] at h2
    simpa using h2
  · have := h3 j hj
    rw [at_map hx] at this
    simpa using this
theorem fBad_none {ds : List PyData} (h : fBad ds = none) : ∀ x ∈ ds, winB x = true := by
  intro x hx
  obtain ⟨j, hj⟩ := List.getElem?_of_mem hx
  have hl : j < ds.length := (List.getElem?_eq_some_iff.mp hj).1
  have := fIdx_no h j (by simpa using hl)
  rw [at_map hj] at this
  simpa using this
theorem fBad_all (ds : List PyData) : (fBad ds).isNone = ds.all winB := by
  cases h : fBad ds with
  | none => exact (List.all_eq_true.mpr (fBad_none h)).symm
  | some i =>
    obtain ⟨⟨⟨x, hx, hw⟩, _⟩, _⟩ := fBad_some h
    symm
    rw [Option.isNone_some, List.all_eq_false]
    exact ⟨x, List.mem_of_getElem? hx, by rw [hw]; decide⟩
/-- what is due for a list -/
def due1 : PyData → Option PyData
  | .list ds => (fBad ds).map fun i => L2d "windows" (.int (i : Nat))
  | _ => some (L2d "windows" .none)
def due2 : PyData → Option PyData
  | .list ds => match fBad ds with
    | some i => some (L2d "windows" (.int (i : Nat)))
    | none => (firstFall ds).map fun p => L2d "windows" (.int (p : Nat))
  | _ => some (L2d "windows" .none)
def due3 (d e : PyData) : Option PyData := match due2 d with
  | some x => some x
  | none => if verB e = false then some (L2d "version" e) else none
theorem due1_no {d : PyData} (h : isList d = false) : due1 d = some (L2d "windows" .none) := by
  cases d <;> first | rfl | cases h
theorem due2_no {d : PyData} (h : isList d = false) : due2 d = some (L2d "windows" .none) := by
  cases d <;> first | rfl | cases h
theorem due1_bad {ds : List PyData} {i : Nat} (h : fBad ds = some i) : due1 (.list ds) = some (L2d "windows" (.int (i : Nat))) := by simp [due1, h]
theorem due2_bad {ds : List PyData} {i : Nat} (h : fBad ds = some i) : due2 (.list ds) = some (L2d "windows" (.int (i : Nat))) := by simp [due2, h]
theorem due1_ok {ds : List PyData} (h : fBad ds = none) : due1 (.list ds) = none := by simp [due1, h]
theorem due2_ok {ds : List PyData} (h : fBad ds = none) : due2 (.list ds) = (firstFall ds).map fun p => L2d "windows" (.int (p : Nat)) := by simp [due2, h]
theorem due2_of {d e : PyData} (h : due1 d = some e) : due2 d = some e := by
  cases d with
  | list ds =>
    cases hb : fBad ds with
    | none => rw [due1_ok hb] at h; cases h
    | some i => rw [due1_bad hb] at h; rw [due2_bad hb]; exact h
  | _ => exact h
theorem due3_of {d e x : PyData} (h : due2 d = some x) : due3 d e = some x := by unfold due3; rw [h]
theorem due3_no {d e : PyData} (h : due2 d = none) : due3 d e = if verB e = false then some (L2d "version" e) else none := by unfold due3; rw [h]
/-- what is told where o is due -/
def Tl (o : Option PyData) (z : Str) : Prop := (∀ e, o = some e → z = e.shown) ∧ (o = none → ∃ x, z = rp "told" x ∧ Shw (L2d "told" x))
theorem Tl.due {e : PyData} : Tl (some e) e.shown := ⟨(fun _ h => by cases h; rfl), (fun h => by cases h)⟩
theorem Tl.told {x : PyData} (h : Shw (L2d "told" x)) : Tl none (rp "told" x) := ⟨(fun _ h => by cases h), fun _ => ⟨x, rfl, h⟩⟩
theorem okNat {n : Nat} (h : n ≤ 1000) : Ok2 80 3 (.int (n : Nat)) :=
  (ok3_int (n := 4) (by omega) (by show ((n : Int)).natAbs < 10 ^ 4; omega) (by decide) (by decide)).1.mono (by decide) (by decide)
theorem okFD {o : Option Nat} (h : ∀ n, o = some n → n ≤ 1000) : Ok2 80 3 (fD o) := by
  cases o with
  | none => exact (ok3_by (by decide +kernel)).1
  | some n => exact okNat (h n rfl)
theorem okNone : Ok2 80 3 PyData.none := (ok3_by (by decide +kernel)).1
theorem ff_le {ds : List PyData} {p : Nat} (h : firstFall ds = some p) : p ≤ ds.length := by
  unfold firstFall at h
  cases q : fIdx (falD ds) with
  | none => rw [q] at h; cases h
  | some i =>
    rw [q] at h
    cases h
    have := (fIdx_inv q).1
    rw [fal_len] at this
    show i + 1 ≤ _
    omega
/-- values of which the law speaks -/
def Ls (d : PyData) : Prop := Shw d ∧ ∀ ds, d = .list ds → ds.length ≤ 4 ∧ ∀ x ∈ ds, Od x
section
variable {T : List (Addr × Str)} {CW CS CV CT : Addr} {σ : L2.St} {H : Hp} {Q : VK} {v1 v2 : V} {d1 d2 : PyData} {i j : Nat}
theorem run_fall (hT : Tabs T H) (h1 : DaL H v1 d1) (l1 : Ls d1) (hi : σ[i]? = some (some v1))
    (q : ∀ z H', ExtN H H' → Tabs T H' → Tl (due1 d1) z → Q (.str z) H') :
    tLam T (TT6 CW CS CV CT) (fun E => tCall (spFall CS) [] E (tCons (tVar i) tNil)) σ H Q := by
  refine ⟨hT, fun H1 e1 t1 => ?_⟩
  intro H0 S0 R S herr hok
  have e0 : ExtN H H0 := e1.trans (ExtN.same S0)
  have t0 : Tabs T H0 := t1.ext S0
  have Q0 : ∀ z H', Same H0 H' → Tl (due1 d1) z → Q (.str z) H' := fun z H' S' => q z H' (e0.trans (ExtN.same S')) (t0.ext S')
  refine ⟨v1, hi, v1, d1, rfl, h1.monoN e0, fun hl dx hdx => ?_, fun ds hd => ?_⟩
  · have S1 := new_same (o := .xd [("position", V.non)]) hdx
    rw [due1_no hl] at Q0
    exact herr _ _ _ ⟨dx, .non, .none, "windows", "position", rfl, upd_same, .non, shw2 nmS okNone, .inr (.inl ⟨rfl, rfl, rfl⟩), fun H' S' => Q0 _ H' (S1.trans S') .due⟩
  · subst hd
    have hl := (l1.2 ds rfl).1
    refine ⟨by omega, fun k hb J SJ dx hdx => ?_, fun all J SJ => ?_⟩
    · have S1 := new_same (o := .xd [("position", V.int (k : Nat))]) hdx
      have fb : fBad ds = some k := by
        obtain ⟨⟨x, hx, hw⟩, hj⟩ := hb
        refine fIdx_some (by rw [at_map hx, hw]; rfl) fun j hj' => ?_
        have hkl := (List.getElem?_eq_some_iff.mp hx).1
        have hjl : j < ds.length := by omega
        have e : ds[j]? = some ds[j] := by simp [hjl]
        rw [at_map e, hj j hj' _ e]
        rfl
      have hk := (fBad_some fb).2
      rw [due1_bad fb] at Q0
      exact herr _ _ _ ⟨dx, .int (k : Nat), .int (k : Nat), "windows", "position", rfl, upd_same, .int _, shw2 nmS (okNat (by omega)), .inr (.inl ⟨rfl, rfl, rfl⟩), fun H' S' => Q0 _ H' ((SJ.trans S1).trans S') .due⟩
    · have fb : fBad ds = none := by
        have := fBad_all ds
        rw [List.all_eq_true.mpr all] at this
        simpa using this
      rw [due1_ok fb] at Q0
      have sh : Shw (L2d "told" (fD (firstFall ds))) := shw2 nmT (okFD fun n hn => by have := ff_le hn; omega)
      exact hok _ _ _ (fDa _) sh fun H' S' => Q0 _ H' (SJ.trans S') (.told sh)
theorem run_least (hT : Tabs T H) (h1 : DaL H v1 d1) (h2 : Da H v2 d2) (l1 : Ls d1) (o2 : Ok2 80 3 d2) (hi : σ[i]? = some (some v1)) (hj : σ[j]? = some (some v2))
    (q : ∀ z H', ExtN H H' → Tabs T H' → Tl (due3 d1 d2) z → Q (.str z) H') :
    tLam T (TT6 CW CS CV CT) (fun E => tCall (spLeast CS CV) [] E (tCons (tVar i) (tCons (tVar j) tNil))) σ H Q := by
  refine ⟨hT, fun H1 e1 t1 => ?_⟩
  intro H0 S0 R S herr hok
  have e0 : ExtN H H0 := e1.trans (ExtN.same S0)
  have t0 : Tabs T H0 := t1.ext S0
  have Q0 : ∀ z H', Same H0 H' → Tl (due3 d1 d2) z → Q (.str z) H' := fun z H' S' => q z H' (e0.trans (ExtN.same S')) (t0.ext S')
  refine ⟨v1, hi, v2, hj, v1, v2, d1, d2, rfl, h1.monoN e0, h2.monoN e0, fun hl dx hdx => ?_, fun ds hd => ?_⟩
  · have S1 := new_same (o := .xd [("position", V.non)]) hdx
    rw [due3_of (due2_no hl)] at Q0
    exact herr _ _ _ ⟨dx, .non, .none, "windows", "position", rfl, upd_same, .non, shw2 nmS okNone, .inr (.inl ⟨rfl, rfl, rfl⟩), fun H' S' => Q0 _ H' (S1.trans S') .due⟩
  · subst hd
    have hl := (l1.2 ds rfl).1
    refine ⟨by omega, fun k hb J SJ dx hdx => ?_, fun all => ?_⟩
    · have S1 := new_same (o := .xd [("position", V.int (k : Nat))]) hdx
      have fb : fBad ds = some k := by
        obtain ⟨⟨x, hx, hw⟩, hj⟩ := hb
        refine fIdx_some (by rw [at_map hx, hw]; rfl) fun j hj' => ?_
        have hkl := (List.getElem?_eq_some_iff.mp hx).1
        have hjl : j < ds.length := by omega
        have e : ds[j]? = some ds[j] := by simp [hjl]
        rw [at_map e, hj j hj' _ e]
        rfl
      have hk := (fBad_some fb).2
      rw [due3_of (due2_bad fb)] at Q0
      exact herr _ _ _ ⟨dx, .int (k : Nat), .int (k : Nat), "windows", "position", rfl, upd_same, .int _, shw2 nmS (okNat (by omega)), .inr (.inl ⟨rfl, rfl, rfl⟩), fun H' S' => Q0 _ H' ((SJ.trans S1).trans S') .due⟩
    · have fb : fBad ds = none := by
        have := fBad_all ds
        rw [List.all_eq_true.mpr all] at this
        simpa using this
      have d2e := due2_ok fb
      refine ⟨fun p hp J SJ dx hdx => ?_, fun hn => ?_⟩
      · have S1 := new_same (o := .xd [("position", V.int (p : Nat))]) hdx
        rw [hp] at d2e
        rw [due3_of (show due2 (.list ds) = some (L2d "windows" (.int (p : Nat))) from d2e)] at Q0
        have := ff_le hp
        exact herr _ _ _ ⟨dx, .int (p : Nat), .int (p : Nat), "windows", "position", rfl, upd_same, .int _, shw2 nmS (okNat (by omega)), .inr (.inl ⟨rfl, rfl, rfl⟩), fun H' S' => Q0 _ H' ((SJ.trans S1).trans S') .due⟩
      · rw [hn] at d2e
        rw [due3_no (show due2 (.list ds) = none from d2e)] at Q0
        refine ⟨fun hv J SJ dx hdx => ?_, fun hv o J SJ ho => ?_⟩
        · have S1 := new_same (o := .xd [("value", v2)]) hdx
          rw [if_pos hv] at Q0
          exact herr _ _ _ ⟨dx, v2, d2, "version", "value", rfl, upd_same, ((h2.monoN e0).mono SJ).mono S1, shw2 nmV o2, .inr (.inr (.inl ⟨rfl, rfl, rfl⟩)), fun H' S' => Q0 _ H' ((SJ.trans S1).trans S') .due⟩
        · rw [if_neg (by rw [hv]; decide)] at Q0
          have sh : Shw (L2d "told" (fD o)) := shw2 nmT (okFD ho)
          exact hok _ _ _ (fDa _) sh fun H' S' => Q0 _ H' (SJ.trans S') (.told sh)
end
/-- a window of the law by its data -/
theorem fal_top {a b : Wn} (ha : ∀ x, a.2 = some x → x < 10 ^ 64) (hb : ∀ x, b.2 = some x → x < 10 ^ 64) :
    (!risW a b) = (decide (b.1 < a.1) || decide (topI b < topI a)) := by
  have e64 : (10 : Int) ^ (64 : Int).toNat = 10 ^ 64 := rfl
  obtain ⟨al, ao⟩ := a
  obtain ⟨bl, bo⟩ := b
  unfold risW
  by_cases h : bl < al
  · simp [h]
  · rw [if_neg h, decide_eq_false h, Bool.false_or]
    cases ao with
    | none =>
      cases bo with
      | none => simp [topI]
      | some y =>
        have hy := hb y rfl
        simp only [topI, e64, Option.isNone_some, Bool.not_false]
        exact (decide_eq_true hy).symm
    | some x =>
      have hx := ha x rfl
      cases bo with
      | none =>
        simp only [topI, e64, reach, Bool.not_true]
        exact (decide_eq_false (by omega)).symm
      | some y =>
        show (!decide (y ≥ x)) = decide (y < x)
        by_cases q : y ≥ x
        · rw [decide_eq_true q, decide_eq_false (show ¬ y < x by omega)]; rfl
        · rw [decide_eq_false q, decide_eq_true (show y < x by omega)]; rfl
theorem hi_of {w : Wn} (h : Od (wD w)) : ∀ x, w.2 = some x → x < 10 ^ 64 := by
  intro x hx
  have q := h.2
  obtain ⟨l, o⟩ := w
  cases hx
  simpa [wD, hD, hiB] using q
theorem flat_bl (bs : List Bool) : (bs.map V.bl).all flatV = true := by
  rw [List.all_eq_true]
  intro v hv
  obtain ⟨b, _, rfl⟩ := List.mem_map.mp hv
  rfl
theorem in_bl (bs : List Bool) : inV (.bl true) (bs.map V.bl) = (fIdx bs).isSome := by
  cases h : fIdx bs with
  | none =>
    have := fIdx_no h
    simp only [Option.isSome_none]
    unfold inV
    rw [List.any_eq_false]
    intro v hv
    obtain ⟨b, hb, rfl⟩ := List.mem_map.mp hv
    obtain ⟨j, hj⟩ := List.getElem?_of_mem hb
    have hl := (List.getElem?_eq_some_iff.mp hj).1
    have z := this j hl
    unfold at' at z
    rw [List.getD_eq_getElem?_getD, hj] at z
    have : b = false := z
    subst this
    decide
  | some i =>
    obtain ⟨h1, h2, _⟩ := fIdx_inv h
    simp only [Option.isSome_some]
    unfold inV
    rw [List.any_eq_true]
    refine ⟨.bl true, List.mem_map.mpr ⟨true, ?_, rfl⟩, rfl⟩
    unfold at' at h2
    rw [List.getD_eq_getElem?_getD, List.getElem?_eq_getElem h1] at h2
    have : bs[i] = true := h2
    rw [← this]
    exact List.getElem_mem _
theorem at_bl {bs : List Bool} {i : Nat} (h : i < bs.length) : (bs.map V.bl)[i]? = some (.bl (at' bs i)) := by
  rw [List.getElem?_map, List.getElem?_eq_getElem h]
  unfold at'
  rw [List.getD_eq_getElem?_getD, List.getElem?_eq_getElem h]
  rfl
end N6
set_option maxHeartbeats 4000000
namespace N6
open PySem PySem.Spec PyProof.Rows L2 G N4 LamX
def hide2 (r D : Addr) (J : Hp) : Hp := hide D (hide r J)
theorem h2_inv {r D q : Addr} {J : Hp} {o : HO} (h : hide2 r D J q = some o) : q ≠ D ∧ q ≠ r ∧ J q = some o := by
  unfold hide2 hide at h
  split at h
  · cases h
  · rename_i n
    split at h
    · cases h
    · rename_i m
      exact ⟨n, m, h⟩
theorem h2_get {r D q : Addr} {J : Hp} {o : HO} (n : q ≠ D) (m : q ≠ r) (h : J q = some o) : hide2 r D J q = some o := hide_get n (hide_get m h)
theorem h2_ext {r D : Addr} {J J' : Hp} (e : Ext r J J') : Same (hide2 r D J) (hide2 r D J') := fun q o h => by
  obtain ⟨n, m, h⟩ := h2_inv h
  exact h2_get n m (e _ _ m h)
theorem h2_put {r D : Addr} {J : Hp} {u : HO} : Same (hide2 r D J) (hide2 r D (upd J D u)) := fun q o h => by
  obtain ⟨n, m, h⟩ := h2_inv h
  exact h2_get n m (by rw [upd_ne n]; exact h)
theorem h2_offs {r D : Addr} {J J' : Hp} {u : HO} (R : Rng J r) (k : J D = some u) : Same (offs J J') (hide2 r D J') := fun q o h => by
  obtain ⟨n, h2⟩ := offs_inv h
  obtain ⟨a, b, hr, _⟩ := R
  exact h2_get (fun z => by rw [z, k] at n; cases n) (fun z => by rw [z, hr] at n; cases n) h2
theorem daAll_app {H : Hp} : ∀ {xs ys : List V} {ds es : List PyData}, DaAll H xs ds → DaAll H ys es → DaAll H (xs ++ ys) (ds ++ es)
  | _, _, _, _, .nil, h => h
  | _, _, _, _, .cons h t, g => .cons h (daAll_app t g)
/-- what is due stands there -/
def DueAt (H : Hp) (u : V) (o : Option PyData) : Prop := match o with
  | none => u = .non
  | some e => (∃ p, u = .ref p) ∧ Da H u e ∧ Shw e
theorem tabs_put {T : List (Addr × Str)} {r : Addr} {H : Hp} {xs ys : List V} (t : Tabs T H) (hr : H r = some (.lst xs)) : Tabs T (upd H r (.lst ys)) := by
  intro p hp
  obtain ⟨ps, h1, h2, h3⟩ := t p hp
  have n1 : p.1 ≠ r := fun z => by
    rw [z, hr] at h1
    cases h1
  refine ⟨ps, by rw [upd_ne n1]; exact h1, h2, fun pos cv hc => ?_⟩
  obtain ⟨c, e1, e2⟩ := h3 pos cv hc
  have n2 : c ≠ r := fun z => by
    rw [z, hr] at e2
    unfold CodeO at e2
    cases e2
  exact ⟨c, e1, by rw [upd_ne n2]; exact e2⟩
theorem DueAt.mono {H H' : Hp} (s : Same H H') {u : V} {o : Option PyData} (h : DueAt H u o) : DueAt H' u o := by
  cases o with
  | none => exact h
  | some e => exact ⟨h.1, h.2.1.mono s, h.2.2⟩
theorem DueAt.monoN {H H' : Hp} (s : ExtN H H') {u : V} {o : Option PyData} (h : DueAt H u o) : DueAt H' u o := by
  cases o with
  | none => exact h
  | some e => exact ⟨h.1, h.2.1.monoN s, h.2.2⟩
theorem DueAt.of {H : Hp} {u : V} {o : Option PyData} {e : PyData} {p : Addr} (h : o = some e) (hu : u = .ref p) (hd : Da H u e) (hs : Shw e) : DueAt H u o := by
  subst h
  exact ⟨⟨p, hu⟩, hd, hs⟩
theorem fal_get {ds : List PyData} {j : Nat} {x y : PyData} (h1 : ds[j]? = some x) (h2 : ds[j + 1]? = some y) : (falD ds)[j]? = some (!risD x y) := by
  have e : (ds.zip ds.tail)[j]? = some (x, y) := by
    rw [List.getElem?_zip_eq_some]
    refine ⟨h1, ?_⟩
    rw [List.getElem?_tail]
    exact h2
  unfold falD
  rw [List.getElem?_map, e]
  rfl
theorem DueAt.no {H : Hp} {o : Option PyData} (h : o = none) : DueAt H .non o := by
  subst h
  rfl
theorem due1_list {d : PyData} (h : due1 d = none) : ∃ ds, d = .list ds ∧ fBad ds = none := by
  cases d with
  | list ds =>
    refine ⟨ds, rfl, ?_⟩
    cases q : fBad ds with
    | none => rfl
    | some i => rw [due1_bad q] at h; cases h
  | _ => cases h
theorem okAll {ds : List PyData} (h : ∀ x ∈ ds, Od x) : ∀ x ∈ ds, Ok2 80 3 x := fun x hx => (h x hx).1.1
theorem shwL {ds : List PyData} (l : ds.length ≤ 4) (h : ∀ x ∈ ds, Od x) : Shw (.list ds) :=
  (ok2_list (okAll h)).shw (by have : ds.length * 80 ≤ 4 * 80 := Nat.mul_le_mul_right _ l; omega) (by decide)
theorem shwU {ds : List PyData} (l : ds.length ≤ 4) (h : ∀ x ∈ ds, Od x) : Shw (.tuple ds) :=
  (ok2_tup (okAll h)).shw (by have : ds.length * 80 ≤ 4 * 80 := Nat.mul_le_mul_right _ l; omega) (by decide)
theorem cut_tl (xs : List V) : cutV xs (some 1) none = xs.tail := by
  unfold cutV
  rw [HT.sIx_none, show HT.sIx xs.length 0 (some 1) = min 1 xs.length from HT.sIx_nat _ _ 1]
  cases xs with
  | nil => rfl
  | cons t l =>
    simp only [List.length_cons, List.tail_cons]
    have e : min 1 (l.length + 1) = 1 := by omega
    rw [e]
    simp only [List.drop_succ_cons, List.drop_zero]
    apply List.take_of_length_le
    simp
abbrev NY : List Str := ["_law_rng_here", "_law_some", "_law_number_here", "_law_kept", "_law_due", "_law_told_here", "_law_falls", "_law_turn", "_law_one", "_law_a", "_law_b"]
def qY : Str := ("_law_lists_right" : Str) ++ ".<locals>." ++ "<lambda>"
theorem qY_eq (L f : Addr) (cd : Value) : (envOfC "_law_lists_right" (defScope sLists) L f cd).qual ++ "<lambda>" = qY := rfl
section
variable {P : Program} {w : World} {K : PySem.W.Frag} {mg : Str → Option Value} {base : Heap}
theorem scLi : FnScope NY ["_law_rng_here"] (defScope sLists) :=
  ⟨rfl, rfl, rfl, by decide +kernel, rfl, by decide +kernel, by decide +kernel⟩
theorem ok_lists {fO fC fD fI fL fP fF fE : Addr} {fdO fdC fdD fdI fdL fdP fdF fdE : FuncData} {f cP tP fT CG CW CS CV CT : Addr} {dV kV dc pm ct oc dV2 kV2 dc2 pm2 cdT ct2 oc2 : Value} {an od an2 od2 : Option Addr} {sl sl2 : Array (Option Value)} {tb : List (Addr × Str)}
    (lk : K.lookup f = some ⟨oc, od, .func (PySem.W.fnOf "_law_lists_right" "_law_lists_right" (defArgs sLists) (defBody sLists) (defScope sLists) dV kV dc pm an (.ref cP) ct), sl⟩)
    (hcd : PySem.W.codeIn K (.ref cP) "_law_lists_right" = true) (T : Txt mg) (T2 : Fam K mg CG CW CS CV CT)
    (TW : XCls P w K mg base "InvalidWindow" CW "value" "value") (TS : XCls P w K mg base "InvalidWindows" CS "position" "position") (TV : XCls P w K mg base "InvalidVersion" CV "value" "value") (TX : XCls P w K mg base "InvalidText" CT "line" "line")
    (lkT : K.lookup fT = some ⟨oc2, od2, .func (PySem.W.fnOf "_law_told" "_law_told" (defArgs sTold) (defBody sTold) (defScope sTold) dV2 kV2 dc2 pm2 an2 cdT ct2), sl2⟩)
    (hcT : PySem.W.codeIn K cdT "_law_told" = true) (kT : PySem.W.keepIn K (.ref fT) = true) (gT : mg "_law_told" = some (.ref fT))
    (bT : Binds K (PySem.W.fnOf "_law_told" "_law_told" (defArgs sTold) (defBody sTold) (defScope sTold) dV2 kV2 dc2 pm2 an2 cdT ct2) ["_law_call"] [])
    (TB : TabB base mg cP tP) (hmT : (tP, qY) ∈ tb) (huT : ∀ p ∈ tb, p.1 = tP → p.2 = qY)
    (GO : FnOk P w K mg base CX0 3 fO fdO ["_law_rng_here"] spOdd) (kO : PySem.W.keepIn K (.ref fO) = true) (bO : Binds K fdO ["_law_rng_here"] []) (gO : mg "_law_odd" = some (.ref fO))
    (GC : FnOk P w K mg base CX0 2 fC fdC ["_law_rng_here", "_law_options"] (spChoice K)) (kC : PySem.W.keepIn K (.ref fC) = true) (bC : Binds K fdC ["_law_rng_here", "_law_options"] []) (gC : mg "_law_choice" = some (.ref fC))
    (GD : FnOk P w K mg base CX0 1 fD fdD ["_law_rng_here", "_law_many"] spDraw) (kD : PySem.W.keepIn K (.ref fD) = true) (bD : Binds K fdD ["_law_rng_here", "_law_many"] []) (gD : mg "_law_draw" = some (.ref fD))
    (GI : FnOk P w K mg base CX0 1 fI fdI ["_law_one"] (spB verB)) (kI : PySem.W.keepIn K (.ref fI) = true) (bI : Binds K fdI ["_law_one"] []) (gI : mg "_law_is_count" = some (.ref fI))
    (GL : FnOk P w K mg base CX0 2 fL fdL ["_law_one"] (spB winB)) (kL : PySem.W.keepIn K (.ref fL) = true) (bL : Binds K fdL ["_law_one"] []) (gL : mg "_law_is_window" = some (.ref fL))
    (GP : FnOk P w K mg base CX0 1 fP fdP ["_law_one"] spTop) (kP : PySem.W.keepIn K (.ref fP) = true) (bP : Binds K fdP ["_law_one"] []) (gP : mg "_law_top" = some (.ref fP))
    (GF : FnOk P w K mg base (L2.CX P w) 5 fF fdF ["windows"] (spFall CS)) (kF : PySem.W.keepIn K (.ref fF) = true) (bF : Binds K fdF ["windows"] []) (gF : mg "first_falling" = some (.ref fF))
    (GE : FnOk P w K mg base (L2.CX P w) 6 fE fdE ["windows", "version"] (spLeast CS CV)) (kE : PySem.W.keepIn K (.ref fE) = true) (bE : Binds K fdE ["windows", "version"] []) (gE : mg "least_reaching" = some (.ref fE)) :
    FnG P w K mg base CX0 9 f (PySem.W.fnOf "_law_lists_right" "_law_lists_right" (defArgs sLists) (defBody sLists) (defScope sLists) dV kV dc pm an (.ref cP) ct) ["_law_rng_here"] (spPart tb) := by
  refine fn_ofG lk hcd scLi (fun vs H Q E h => ?_) (fun A outer s H vs Q E gd hr h => ?_)
  · obtain ⟨r, rfl, _⟩ := h
    rfl
  · obtain ⟨r, rfl, R0, t0, q⟩ := h
    have hrM : Room 8 _ := hr
    have hrO : Room 3 _ := hr.mono (by decide)
    have hrC : Room 2 _ := hr.mono (by decide)
    have hrD : Room 1 _ := hr.mono (by decide)
    have hrI : Room 1 _ := hr.mono (by decide)
    have hrL : Room 2 _ := hr.mono (by decide)
    have hrP : Room 1 _ := hr.mono (by decide)
    have nd := scLi.nd
    have hmT' : (tP, (envOfC "_law_lists_right" (defScope sLists) s.heap.objs.size f (.ref cP)).qual ++ "<lambda>") ∈ tb := by rw [qY_eq]; exact hmT
    have huT' : ∀ p ∈ tb, p.1 = tP → p.2 = (envOfC "_law_lists_right" (defScope sLists) s.heap.objs.size f (.ref cP)).qual ++ "<lambda>" := by rw [qY_eq]; exact huT
    have hu : (A.deeper (envOfC "_law_lists_right" (defScope sLists) s.heap.objs.size f (.ref cP))).units + 200 < cLine := by have := hr.un; omega
    have body : ∃ t, PSs (cxOf CX0 P w K mg base NY "_law_lists_right" (defScope sLists) f (.ref cP) A outer s H E).nox (defBody sLists) t ∧
        t { nx := fun _ J => Q .non J, rt := Q } (start NY [.ref r]) H := by
      refine ⟨_, pss_cons (ps_set (i := 1) nd rfl (Or.inr rfl) (pe_lc (own := [("_law_turn", 7)]) (g := gName 7) (tt := tYes) rfl nd (pi_range1 (by rfl) T.range (pa_cons (pe_call GD hrD (by rfl) gD kD bD .nil pass0 (pa_cons (pv 0) (pa_cons pe_int pa_nil))) pa_nil)) (blkOk_by (own := [("_law_turn", 7)]) (N := NY) (sc := defScope sLists) (by decide +kernel)) (fun _ _ _ _ _ => (pg_name (i := 7) nd rfl (Or.inl rfl))) (fun _ _ _ _ _ => pts_nil) (fun _ _ _ _ _ => (pe_call GO hrO (by rfl) gO kO bO .nil pass0 (pa_cons (pv 0) pa_nil)))))
        (pss_cut (ps_if (pt_cmpR op_eq (pe_call GD hrD (by rfl) gD kD bD .nil pass0 (pa_cons (pv 0) (pa_cons pe_int pa_nil))) pe_int (nomark _)) (pss_one (ps_set (i := 1) nd rfl (Or.inr rfl) (pe_lc (own := [("_law_one", 8)]) (g := gName 8) rfl nd (pi_list (pv 1)) (blkOk_by (own := [("_law_one", 8)]) (N := NY) (sc := defScope sLists) (by decide +kernel)) (fun _ _ _ _ _ => (pg_name (i := 8) nd rfl (Or.inl rfl))) (fun _ _ _ _ _ => pts_one (pt_val (pe_call GL hrL (by rfl) gL kL bL .nil pass0 (pa_cons (pv 8) pa_nil)))) (fun _ _ _ _ _ => pv 8)))) pss_nil)
        (pss_cons (ps_set (i := 1) nd rfl (Or.inr rfl) (pe_call GC hrC (by rfl) gC kC bC .nil pass0 (pa_cons (pv 0) (pa_cons (pe_lst (pa_cons (pv 1) (pa_cons (pv 1) (pa_cons (pv 1) (pa_cons (pv 1) (pa_cons (pe_callTy call_tuple_of (by rfl) T.tuple (by decide +kernel) (pa_cons (pv 1) pa_nil)) (pa_cons pe_non (pa_cons pe_int (pa_cons pe_str (pa_cons pe_dnewK (pa_cons pe_bl pa_nil))))))))))) pa_nil))))
        (pss_cons (ps_asg (pe_tup (pa_cons (pe_call GC hrC (by rfl) gC kC bC .nil pass0 (pa_cons (pv 0) (pa_cons (pe_lst (pa_cons pe_int (pa_cons pe_int (pa_cons pe_int (pa_cons pe_int (pa_cons (pe_un un_neg pe_int) (pa_cons pe_bl (pa_cons pe_non (pa_cons pe_str pa_nil))))))))) pa_nil))) (pa_cons (pe_callB (call_repL gd hr.units) (by rfl) T.repr (by decide +kernel) (pa_cons (pv 1) pa_nil)) (pa_cons pe_non pa_nil)))) (pg_tup rfl (pgs_cons (pg_name (i := 2) nd rfl (Or.inr rfl)) (pgs_cons (pg_name (i := 3) nd rfl (Or.inl rfl)) (pgs_cons (pg_name (i := 4) nd rfl (Or.inl rfl)) pgs_nil)))))
        (pss_cut (ps_if (pt_not (pt_val (pe_callB call_isi (by rfl) T.isi (by decide +kernel) (pa_cons (pv 1) (pa_cons (pe_bltn (v := .ty "list") (by rfl) T.list (by decide +kernel) rfl) pa_nil))))) (pss_one (ps_set (i := 4) nd rfl (Or.inl rfl) (pe_lstS (pa_cons pe_str (pa_cons pe_non pa_nil)))))
            (pss_one (ps_if (pt_cmpR (op_neNil hr.units) (pe_lc (own := [("_law_one", 8)]) (g := gName 8) rfl nd (pi_list (pv 1)) (blkOk_by (own := [("_law_one", 8)]) (N := NY) (sc := defScope sLists) (by decide +kernel)) (fun _ _ _ _ _ => (pg_name (i := 8) nd rfl (Or.inl rfl))) (fun _ _ _ _ _ => pts_one (pt_not (pt_val (pe_call GL hrL (by rfl) gL kL bL .nil pass0 (pa_cons (pv 8) pa_nil))))) (fun _ _ _ _ _ => pv 8)) (pe_lst pa_nil) (nomark _)) (pss_one (ps_set (i := 4) nd rfl (Or.inl rfl) (pe_lstS (pa_cons pe_str (pa_cons (pe_bm PySem.F.plainAttrs_list PySem.F.slot_list_index PySem.F.type_list_index mt_index (pe_lc (own := [("_law_one", 8)]) (g := gName 8) (tt := tYes) rfl nd (pi_list (pv 1)) (blkOk_by (own := [("_law_one", 8)]) (N := NY) (sc := defScope sLists) (by decide +kernel)) (fun _ _ _ _ _ => (pg_name (i := 8) nd rfl (Or.inl rfl))) (fun _ _ _ _ _ => pts_nil) (fun _ _ _ _ _ => (pe_call GL hrL (by rfl) gL kL bL .nil pass0 (pa_cons (pv 8) pa_nil)))) (pa_cons pe_bl pa_nil)) pa_nil))))) pss_nil)))
        (pss_cons (ps_set (i := 5) nd rfl (Or.inl rfl) (pe_lamS (T := tb) (TT := TT6 CW CS CV CT) (Ng := NT) (k := 6) (t := fun E => tCall (spFall CS) [] E (tCons (tVar 1) tNil)) (by rfl) gT kT lkT hcT bT scTo rfl (.inl rfl) (told_gives gd hu T T2 TW TS TV TX) TB rfl hmT' huT' hrM (lamS_by (sc := defScope sLists) (by decide +kernel)) (by rfl) (fun _ _ _ _ _ => by rfl)
            (fun A ou s H E f c' _ hrl => pe_call GF (hrl.mono (by decide)) (by rfl) gF kF bF .nil lam_pass (pa_cons (pv 1) pa_nil))))
        (pss_cut (ps_if (PW.pt (pw_or (PW.pt (pw_and (pt_cmp (pc_notN (pv 4))) (pw_and1 (pt_cmpR op_ne (pv 5) (pe_callB (call_repS gd hr.units) (by rfl) T.repr (by decide +kernel) (pa_cons (pv 4) pa_nil)) (nomark _))))) (pw_or1 (PW.pt (pw_and (pt_cmp (pc_isN (pv 4))) (pw_and1 (pt_cmpR op_ne (pe_slice sl_str (pv 5) (po_some pe_int) (po_some pe_int)) pe_str (nomark _)))))))) (pss_one (ps_ret pe_bl)) pss_nil)
        (pss_cut (ps_if (pt_cmp (pc_isN (pv 4))) (pss_cons (ps_setLc (i := 6) (own := [("_law_a", 9), ("_law_b", 10)]) (g := gTup K 2 (gCons (gName 9) (gCons (gName 10) gNil))) (tt := tYes) rfl nd rfl rfl (sw_true rfl rfl rfl (by decide +kernel)) (pi_zip (by rfl) T.zip (pa_cons (pv 1) (pa_cons (pe_slice sl_list (pv 1) (po_some pe_int) po_none) pa_nil))) (blkOk_by (own := [("_law_a", 9), ("_law_b", 10)]) (N := NY) (sc := defScope sLists) (by decide +kernel)) (fun _ _ _ _ _ => pg_tup rfl (pgs_cons (pg_name (i := 9) nd rfl (Or.inl rfl)) (pgs_cons (pg_name (i := 10) nd rfl (Or.inl rfl)) pgs_nil))) (fun _ _ _ _ _ => pts_nil) (fun _ _ _ _ _ => pe_or (pe_cmpR op_gt (pe_ix (r := rIxT K) ix_tup (pv 9) pe_int (fun _ _ => rfl)) (pe_ix (r := rIxT K) ix_tup (pv 10) pe_int (fun _ _ => rfl)) (nomark _)) (pe_one (pe_cmpR op_gt (pe_call GP hrP (by rfl) gP kP bP .nil pass0 (pa_cons (pv 9) pa_nil)) (pe_call GP hrP (by rfl) gP kP bP .nil pass0 (pa_cons (pv 10) pa_nil)) (nomark _)))))
            (pss_one (ps_set (i := 4) nd rfl (Or.inl rfl) (pe_ifExp (pt_cmpR op_in_seq pe_bl (pv 6) (by rfl)) (pe_lstS (pa_cons pe_str (pa_cons (pe_op op_add pe_int (pe_bm PySem.F.plainAttrs_list PySem.F.slot_list_index PySem.F.type_list_index mt_index (pv 6) (pa_cons pe_bl pa_nil))) pa_nil))) (pv 4))))) pss_nil)
        (pss_cut (ps_if (PW.pt (pw_and (pt_cmp (pc_isN (pv 4))) (pw_and1 (pt_not (pt_val (pe_call GI hrI (by rfl) gI kI bI .nil pass0 (pa_cons (pv 2) pa_nil))))))) (pss_one (ps_set (i := 4) nd rfl (Or.inl rfl) (pe_lstS (pa_cons pe_str (pa_cons (pv 2) pa_nil))))) pss_nil)
        (pss_cons (ps_set (i := 5) nd rfl (Or.inl rfl) (pe_lamS (T := tb) (TT := TT6 CW CS CV CT) (Ng := NT) (k := 6) (t := fun E => tCall (spLeast CS CV) [] E (tCons (tVar 1) (tCons (tVar 2) tNil))) (by rfl) gT kT lkT hcT bT scTo rfl (.inl rfl) (told_gives gd hu T T2 TW TS TV TX) TB rfl hmT' huT' hrM (lamS_by (sc := defScope sLists) (by decide +kernel)) (by rfl) (fun _ _ _ _ _ => by rfl)
            (fun A ou s H E f c' _ hrl => pe_call GE (hrl.mono (by decide)) (by rfl) gE kE bE .nil lam_pass (pa_cons (pv 1) (pa_cons (pv 2) pa_nil)))))
        (pss_cut (ps_if (PW.pt (pw_or (PW.pt (pw_and (pt_cmp (pc_notN (pv 4))) (pw_and1 (pt_cmpR op_ne (pv 5) (pe_callB (call_repS gd hr.units) (by rfl) T.repr (by decide +kernel) (pa_cons (pv 4) pa_nil)) (nomark _))))) (pw_or1 (PW.pt (pw_and (pt_cmp (pc_isN (pv 4))) (pw_and1 (pt_cmpR op_ne (pe_slice sl_str (pv 5) (po_some pe_int) (po_some pe_int)) pe_str (nomark _)))))))) (pss_one (ps_ret pe_bl)) pss_nil)
        (pss_one (ps_ret (pe_cmpR op_eq (pe_callB (call_repL gd hr.units) (by rfl) T.repr (by decide +kernel) (pa_cons (pv 1) pa_nil)) (pv 3) (nomark _)))))))))))))), ?_⟩
      refine ⟨_, rfl, r, _, rfl, R0, by decide, by decide, fun n1 J1 E1 R1 a0 a1 => ?_⟩
      refine ⟨_, rfl, by omega, by omega, fun D hD => ?_⟩
      have nrD : r ≠ D := R1.free hD
      have hD0 : H D = none := E1.none nrD.symm hD
      refine lc_range (lo := 0) (n := n1.toNat) (fun i J => Ext r H J ∧ Rng J r ∧ Tabs tb J ∧ ∃ xs ds, J D = some (.lst xs) ∧ xs.length = i ∧ DaAll (hide2 r D J) xs ds ∧ ∀ d ∈ ds, Od d)
        ⟨E1.trans (Ext.new hD), R1.new hD, (tabs_ext t0 E1 R0).ext (new_same hD), [], [], upd_same, rfl, .nil, fun _ z => by cases z⟩ ?_ ?_
      · rintro i J hi ⟨EJ, RJ, tJ, xs, ds, hJ, hl, hx, ho⟩
        refine ⟨rfl, yesT ?_⟩
        refine ⟨_, rfl, r, rfl, RJ, fun v d J2 E2 R2 hd od => ?_⟩
        have hJ2 := E2 _ _ nrD.symm hJ
        refine ⟨_, hJ2, by rw [hl, sizeLine_eq]; omega, ?_⟩
        refine ⟨fun b o n h => ?_, R2.put nrD.symm, tabs_put (tabs_ext tJ E2 RJ) hJ2, xs ++ [v], ds ++ [d], upd_same, by simp [hl], ?_, fun x hx2 => ?_⟩
        · rw [upd_ne (ne_of_none h hD0)]
          exact (EJ.trans E2) b o n h
        · exact daAll_app ((hx.mono (h2_ext E2)).mono h2_put) (.cons ((hd.mono (h2_offs RJ hJ)).mono h2_put) .nil)
        · rcases List.mem_append.mp hx2 with z | z
          · exact ho x z
          · rw [List.mem_singleton.mp z]
            exact od
      rintro J2 ⟨E2, R2, t2, xs, ds, hJ2, hl, hx, ho⟩
      have hx : DaAll (hide r J2) xs ds := hx.mono (hide_same D _)
      have l2 : ds.length ≤ 4 := by have := hx.len; omega
      have g2 : hide r J2 D = some (.lst xs) := hide_get nrD.symm hJ2
      refine ⟨fun (σ : L2.St) (J : Hp) => ∃ (D : Addr) (xs : List V) (ds : List PyData), σ = [some (V.ref r), some (.ref D), none, none, none, none, none, none, none, none, none] ∧ ExtR r H J ∧ Rng J r ∧ Tabs tb J ∧
        hide r J D = some (.lst xs) ∧ DaAll (hide r J) xs ds ∧ (∀ d ∈ ds, Od d) ∧ ds.length ≤ 4, ?_, ?_⟩
      rotate_left
      · refine ⟨_, rfl, r, _, rfl, R2, by decide, by decide, fun n3 J3 E3 R3 b0 b1 => ?_⟩
        have t3 := tabs_ext t2 E3 R2
        have X3 : ExtR r H J3 := ExtR.ext (E2.trans E3)
        have hx3 := hx.mono (hide_ext E3)
        have g3 := hide_ext E3 _ _ g2
        have k3 := hide_same r J3 _ _ g3
        refine ⟨rfl, _, rfl, ?_⟩
        refine ite2 (fun _ => ?_) (fun _ => ⟨D, xs, ds, rfl, X3, R3, t3, g3, hx3, ho, l2⟩)
        refine ⟨_, rfl, D, rfl, ⟨_, SqL.of k3⟩, fun D4 hD4 => ?_⟩
        refine lc_list (K := K) (a := D) (xs := xs) (fun i J => Same J3 J ∧ ∃ ys es, J D4 = some (.lst ys) ∧ DaAll (hide r J3) ys es ∧ (∀ e ∈ es, Od e) ∧ ys.length ≤ i)
          ⟨new_same hD4, [], [], upd_same, .nil, (fun _ z => by cases z), Nat.le_refl _⟩ (fun i J _ h => SqL.of (h.1 _ _ k3)) ?_ ?_
        · rintro i x J hxi ⟨SJ, ys, es, kJ, hy, oy, ly⟩
          obtain ⟨dx, hdx, hda⟩ := da_get hx3 hxi
          have il := (List.getElem?_eq_some_iff.mp hxi).1
          have := hx3.len
          refine ⟨rfl, _, rfl, x, dx, rfl, (hda.mono (hide_same r J3)).mono SJ, _, rfl, ?_⟩
          cases hw : winB dx with
          | false => exact iteF ⟨SJ, ys, es, kJ, hy, oy, by omega⟩
          | true =>
            refine iteT ⟨_, rfl, _, kJ, by rw [sizeLine_eq]; omega, ?_, ys ++ [x], es ++ [dx], upd_same, daAll_app hy (.cons hda .nil), fun e he => ?_, by rw [List.length_append]; show ys.length + 1 ≤ _; omega⟩
            · intro b o e
              rw [upd_ne (ne_of_none e hD4)]
              exact SJ b o e
            · rcases List.mem_append.mp he with z | z
              · exact oy e z
              · rw [List.mem_singleton.mp z]
                exact ho dx (List.mem_of_getElem? hdx)
        · rintro J ⟨SJ, ys, es, kJ, hy, oy, ly⟩
          have := hx3.len
          have := hy.len
          exact ⟨D4, ys, es, rfl, X3.trans (ExtR.ext (Ext.of SJ)), R3.same SJ, t3.ext SJ, hide_get (R3.free hD4).symm kJ, hy.mono (hide_to SJ), oy, by omega⟩
      clear hx ho l2 g2 hJ2 hl E2 R2 t2
      rintro σ J2 ⟨D, xs, ds, rfl, X2, R2, t2, g2, hx, ho, l2⟩
      have k2 := hide_same r J2 _ _ g2
      refine ⟨_, rfl, _, rfl, _, rfl, _, rfl, _, rfl, _, rfl, D, xs, rfl, .inl ⟨SqL.of k2, fun p3 hp3 => ?_⟩⟩
      obtain ⟨J3, j3, S3, U3, R3, k3, g3⟩ := stp (o := .tup xs) R2 hp3
      rw [j3]
      refine fun p4 hp4 => ?_
      obtain ⟨J4, j4, S4, U4, R4, k4, g4⟩ := stp (o := .dK ([] : List (Key × V))) R3 hp4
      rw [j4]
      refine ⟨(by show 10 ≤ sizeLine; decide), fun p5 hp5 => ?_⟩
      obtain ⟨J5, j5, S5, U5, R5, k5, g5⟩ := stp (o := .lst ([.ref D, .ref D, .ref D, .ref D, .ref p3, .non, .int 0, .str "", .ref p4, .bl true] : List V)) R4 hp5
      rw [j5]
      have U25 := (U3.trans U4).trans U5
      have mL : ∃ d : PyData, DaL (hide r J5) (.ref D) d ∧ Ls d := ⟨.list ds, .inr ⟨D, xs, ds, rfl, rfl, U25 _ _ g2, hx.mono U25⟩, shwL l2 ho, fun es e => by cases e; exact ⟨l2, ho⟩⟩
      have mem : ∀ v ∈ ([.ref D, .ref D, .ref D, .ref D, .ref p3, .non, .int 0, .str "", .ref p4, .bl true] : List V), ∃ d : PyData, DaL (hide r J5) v d ∧ Ls d :=
        List.forall_mem_cons.2 ⟨mL, List.forall_mem_cons.2 ⟨mL, List.forall_mem_cons.2 ⟨mL, List.forall_mem_cons.2 ⟨mL,
        List.forall_mem_cons.2 ⟨⟨.tuple ds, .inl (Da.tup (U5 _ _ (U4 _ _ g3)) (hx.mono U25)), shwU l2 ho, fun es e => by cases e⟩,
        List.forall_mem_cons.2 ⟨⟨.none, .inl .non, okNone.shw (by decide) (by decide), fun es e => by cases e⟩,
        List.forall_mem_cons.2 ⟨⟨.int 0, .inl (.int _), ok0.shw (by decide) (by decide), fun es e => by cases e⟩,
        List.forall_mem_cons.2 ⟨⟨.str "", .inl (.str _), (show Ok2 80 3 (.str "") from (ok3_by (by decide +kernel)).1).shw (by decide) (by decide), fun es e => by cases e⟩,
        List.forall_mem_cons.2 ⟨⟨.dict [], .inl (Da.dic (U5 _ _ g4) .nil), (show Ok2 80 3 (.dict []) from (ok3_by (by decide +kernel)).1).shw (by decide) (by decide), fun es e => by cases e⟩,
        List.forall_mem_cons.2 ⟨⟨.bool true, .inl (.bl _), (okB2 _).shw (by decide) (by decide), fun es e => by cases e⟩, fun v hv => by cases hv⟩⟩⟩⟩⟩⟩⟩⟩⟩⟩
      refine ⟨r, _, _, rfl, R5, SqL.of k5, R5.ne k5 (fun _ _ z => by cases z), (by show 0 < 10; decide), (by show 10 ≤ 1000; decide), fun v J6 E6 R6 hv => ?_⟩
      obtain ⟨d, hd, ls⟩ := mem v hv
      have hd := hd.mono (hide_ext E6)
      have S25 := (S3.trans S4).trans S5
      have X6 : ExtR r H J6 := X2.trans (ExtR.ext ((Ext.of S25).trans E6))
      have t6 : Tabs tb J6 := tabs_ext (t2.ext S25) E6 R5
      clear mem mL hv hx ho l2 g2 k2 U25 U3 U4 U5 k3 k4 k5 g3 g4 g5 j3 j4 j5
      refine ⟨_, rfl, _, rfl, (by show 8 ≤ sizeLine; decide), fun p7 hp7 => ?_⟩
      obtain ⟨J7, j7, S7, U7, R7, k7, g7⟩ := stp (o := .lst ([.int 0, .int 1, .int 2, .int 3, .int (-1), .bl true, .non, .str "1"] : List V)) R6 hp7
      rw [j7]
      have mem : ∀ v ∈ ([.int 0, .int 1, .int 2, .int 3, .int (-1), .bl true, .non, .str "1"] : List V), ∃ d : PyData, (∀ H, Da H v d) ∧ Ok2 80 3 d :=
        List.forall_mem_cons.2 ⟨⟨.int 0, fun _ => .int _, (ok3_by (by decide +kernel)).1⟩,
        List.forall_mem_cons.2 ⟨⟨.int 1, fun _ => .int _, (ok3_by (by decide +kernel)).1⟩,
        List.forall_mem_cons.2 ⟨⟨.int 2, fun _ => .int _, (ok3_by (by decide +kernel)).1⟩,
        List.forall_mem_cons.2 ⟨⟨.int 3, fun _ => .int _, (ok3_by (by decide +kernel)).1⟩,
        List.forall_mem_cons.2 ⟨⟨.int (-1), fun _ => .int _, (ok3_by (by decide +kernel)).1⟩,
        List.forall_mem_cons.2 ⟨⟨.bool true, fun _ => .bl _, (ok3_by (by decide +kernel)).1⟩,
        List.forall_mem_cons.2 ⟨⟨.none, fun _ => .non, (ok3_by (by decide +kernel)).1⟩,
        List.forall_mem_cons.2 ⟨⟨.str "1", fun _ => .str _, (ok3_by (by decide +kernel)).1⟩, fun v hv => by cases hv⟩⟩⟩⟩⟩⟩⟩⟩
      refine ⟨r, _, _, rfl, R7, SqL.of k7, R7.ne k7 (fun _ _ z => by cases z), (by show 0 < 8; decide), (by show 8 ≤ 1000; decide), fun v3 J8 E8 R8 hv3 => ?_⟩
      obtain ⟨d3, h3, o3⟩ := mem v3 hv3
      have hd8 := (hd.mono U7).mono (hide_ext E8)
      refine ⟨_, rfl, v, d, rfl, hd8.mono (hide_same r J8), ls.1, (by show 3 ≤ sizeLine; decide), fun p9 hp9 => ?_⟩
      obtain ⟨J9, j9, S9, U9, R9, k9, g9⟩ := stp (o := .tup [v3, .str d.shown, .non]) R8 hp9
      rw [j9]
      refine ⟨p9, _, rfl, SqT.of k9, rfl, _, _, rfl, _, _, rfl, _, _, rfl, rfl, ?_⟩
      have X9 : ExtR r H J9 := X6.trans (ExtR.ext (((Ext.of S7).trans E8).trans (Ext.of S9)))
      have t9 : Tabs tb J9 := (tabs_ext (t6.ext S7) E8 R7).ext S9
      have hd9 := hd8.mono U9
      clear mem hv3 hd8 hd k9 g9 k7 g7 j7 j9 U7 U9 hp7 hp9
      have base : ∀ (J : Hp), Same J9 J → ExtR r H J ∧ Rng J r ∧ Tabs tb J ∧ DaL (hide r J) v d ∧ Da (hide r J) v3 d3 :=
        fun J S => ⟨X9.trans (ExtR.ext (Ext.of S)), R9.same S, t9.ext S, hd9.mono (hide_to S), h3 _⟩
      refine ⟨fun (σ : L2.St) (J : Hp) => ∃ (u : V) (c5 c6 : Option V), σ = [some (V.ref r), some v, some v3, some (.str d.shown), some u, c5, c6, none, none, none, none] ∧ ExtR r H J ∧ Rng J r ∧ Tabs tb J ∧ DaL (hide r J) v d ∧ Da (hide r J) v3 d3 ∧ DueAt (hide r J) u (due1 d), ?_, ?_⟩
      rotate_left
      · have dJ := hd9.mono (hide_same r J9)
        have ty := dJ.ty (K := K)
        refine ⟨_, rfl, _, _, _, _, _, rfl, .ty _, ty, kList d, _, rfl, ?_⟩
        rcases hd9.split with hl | ⟨a, xs, ds, rfl, rfl, ga, hx⟩
        · rw [hl]
          refine iteT ⟨(by show 2 ≤ sizeLine; decide), fun p hp np => ?_⟩
          obtain ⟨Ja, ja, Sa, Ua, Ra, ka, gaa⟩ := stp (o := .lst [V.str "windows", V.non]) R9 hp
          rw [ja]
          obtain ⟨b1, b2, b3, b4, b5⟩ := base Ja Sa
          exact ⟨_, _, _, rfl, b1, b2, b3, b4, b5, .of (due1_no hl) rfl (.lst np gaa (.cons (.str _) (.cons .non .nil))) (shw2 nmS okNone)⟩
        · have kx := hide_same r J9 _ _ ga
          have lx := hx.len
          have l4 := (ls.2 ds rfl).1
          refine iteF ⟨_, rfl, a, rfl, ⟨_, SqL.of kx⟩, fun D hD => ?_⟩
          refine lc_list (K := K) (a := a) (xs := xs) (fun i J => Same J9 J ∧ ∃ ys, J D = some (.lst ys) ∧ ys.length ≤ i ∧ ys.isEmpty = (ds.take i).all winB)
            ⟨new_same hD, [], upd_same, Nat.le_refl _, by simp⟩ (fun i J _ h => SqL.of (h.1 _ _ kx)) ?_ ?_
          · rintro i x J hxi ⟨SJ, ys, kJ, ly, ey⟩
            obtain ⟨dx, hdx, hda⟩ := da_get hx hxi
            have il := (List.getElem?_eq_some_iff.mp hxi).1
            refine ⟨rfl, _, rfl, x, dx, rfl, (hda.mono (hide_same r J9)).mono SJ, _, rfl, ?_⟩
            have et : (ds.take (i + 1)).all winB = ((ds.take i).all winB && winB dx) := by
              rw [take_next hdx, List.all_append]
              simp
            cases hw : winB dx with
            | true =>
              refine iteF ⟨SJ, ys, kJ, by omega, ?_⟩
              rw [et, hw, ey, Bool.and_true]
            | false =>
              refine iteT ⟨_, rfl, _, kJ, by rw [sizeLine_eq]; omega, ?_, ys ++ [x], upd_same, by rw [List.length_append]; show ys.length + 1 ≤ _; omega, ?_⟩
              · intro b o e
                rw [upd_ne (ne_of_none e hD)]
                exact SJ b o e
              · rw [et, hw, Bool.and_false]
                simp
          · rintro J ⟨SJ, ys, kJ, ly, ey⟩
            rw [List.take_of_length_le (by omega), ← fBad_all] at ey
            refine ⟨(by show 0 ≤ sizeLine; decide), fun p2 hp2 => ?_⟩
            have S2 := SJ.trans (new_same (o := .lst []) hp2)
            refine ⟨D, p2, ys, rfl, rfl, new_same hp2 _ _ kJ, upd_same, _, rfl, ?_⟩
            rw [ey]
            cases fb : fBad ds with
            | none =>
              obtain ⟨b1, b2, b3, b4, b5⟩ := base _ S2
              exact iteF ⟨_, _, _, rfl, b1, b2, b3, b4, b5, .no (due1_ok fb)⟩
            | some k =>
              obtain ⟨⟨⟨xk, hxk, wk⟩, hbe⟩, kl⟩ := fBad_some fb
              have kx2 := S2 _ _ kx
              refine iteT ⟨_, rfl, a, rfl, ⟨_, SqL.of kx2⟩, fun D3 hD3 => ?_⟩
              refine lc_list (K := K) (a := a) (xs := xs) (fun i J => Same J9 J ∧ J D3 = some (.lst (((ds.take i).map winB).map V.bl)))
                ⟨S2.trans (new_same hD3), upd_same⟩ (fun i J _ h => SqL.of (h.1 _ _ kx)) ?_ ?_
              · rintro i x J3 hxi ⟨SJ3, kJ3⟩
                obtain ⟨dx, hdx, hda⟩ := da_get hx hxi
                have il := (List.getElem?_eq_some_iff.mp hxi).1
                refine ⟨rfl, yesT ⟨_, rfl, x, dx, rfl, (hda.mono (hide_same r J9)).mono SJ3, _, kJ3, ?_, ?_, ?_⟩⟩
                · rw [List.length_map, List.length_map, List.length_take, sizeLine_eq]
                  omega
                · intro b o e
                  rw [upd_ne (ne_of_none (S2 _ _ e) hD3)]
                  exact SJ3 b o e
                · rw [upd_same, take_next hdx, List.map_append, List.map_append]
                  rfl
              · rintro J3 ⟨SJ3, kJ3⟩
                rw [List.take_of_length_le (by omega)] at kJ3
                have wb : (((ds.map winB).map V.bl))[k]? = some (.bl false) := by
                  rw [List.getElem?_map, List.getElem?_map, hxk]
                  simp [wk]
                have wo : ∀ (m : Nat) (z' : V), m < k → ((ds.map winB).map V.bl)[m]? = some z' → eqV z' (.bl false) = false := by
                  intro m z' hm hz
                  have ml : m < ds.length := by omega
                  have em : ds[m]? = some ds[m] := by simp [ml]
                  rw [List.getElem?_map, List.getElem?_map, em] at hz
                  have ew := hbe m hm _ em
                  simp [ew] at hz
                  subst hz
                  rfl
                refine ⟨.inl ⟨rfl, _, SqL.of kJ3⟩, D3, _, .bl false, k, .bl false, rfl, rfl, SqL.of kJ3, rfl, flat_bl _, wb, rfl, wo, (by show 2 ≤ sizeLine; decide), fun p hp np => ?_⟩
                obtain ⟨b1, b2, b3, b4, b5⟩ := base _ (SJ3.trans (new_same (o := .lst [V.str "windows", V.int (k : Nat)]) hp))
                exact ⟨_, _, _, rfl, b1, b2, b3, b4, b5, .of (due1_bad fb) rfl (.lst np (hide_get (Rng.free (R9.same SJ3) hp).symm upd_same) (.cons (.str _) (.cons (.int _) .nil))) (shw2 nmS (okNat (by omega)))⟩
      clear base hd9 t9 X9 R9
      rintro σ J10 ⟨u, c5, c6, rfl, X10, R10, t10, hd10, h310, du10⟩
      refine run_fall t10 (hd10.mono (hide_same r J10)) ls rfl (fun z J11 e11 t11 tl => ?_)
      refine ⟨fun (σ : L2.St) (J : Hp) => ∃ (u : V) (c5 c6 : Option V), σ = [some (V.ref r), some v, some v3, some (.str d.shown), some u, c5, c6, none, none, none, none] ∧ ExtR r H J ∧ Rng J r ∧ Tabs tb J ∧ DaL (hide r J) v d ∧ Da (hide r J) v3 d3 ∧ DueAt (hide r J) u (due1 d), ?_, ?_⟩
      rotate_left
      · skip
        cases hdu : due1 d with
        | none =>
          rw [hdu] at du10
          obtain rfl : u = .non := du10
          obtain ⟨x, rfl, sh⟩ := tl.2 hdu
          refine ⟨_, rfl, _, rfl, iteF (iteF ⟨_, rfl, _, rfl, iteT ⟨_, rfl, _, rfl, _, rfl, _, rfl, sh.2.2, ?_⟩⟩)⟩
          rw [told_cut]
          refine ⟨rfl, _, rfl, ?_⟩
          rw [decide_eq_true rfl]
          exact iteF ⟨_, _, _, rfl, X10.trans (ExtR.extN e11), R10.extN e11, t11, hd10.monoN (hide_extN e11), h3 _, .no rfl⟩
        | some e =>
          rw [hdu] at du10
          obtain ⟨⟨p, rfl⟩, Dd, Sd⟩ := du10
          obtain rfl := tl.1 e hdu
          have DJ := (Dd.mono (hide_same r _)).monoN e11
          refine ⟨_, rfl, _, rfl, iteT ⟨_, rfl, _, rfl, _, _, rfl, DJ, Sd, rfl, _, rfl, ?_⟩⟩
          rw [decide_eq_true rfl]
          exact iteF ⟨_, rfl, _, rfl, iteF (iteF ⟨_, _, _, rfl, X10.trans (ExtR.extN e11), R10.extN e11, t11, hd10.monoN (hide_extN e11), h3 _, .of rfl rfl (Dd.monoN (hide_extN e11)) Sd⟩)⟩
      clear e11 t11 tl du10 hd10 t10 X10 R10
      rintro σ J12 ⟨u, c5, c6, rfl, X12, R12, t12, hd12, h312, du12⟩
      refine ⟨fun (σ : L2.St) (J : Hp) => ∃ (u : V) (c5 c6 : Option V), σ = [some (V.ref r), some v, some v3, some (.str d.shown), some u, c5, c6, none, none, none, none] ∧ ExtR r H J ∧ Rng J r ∧ Tabs tb J ∧ DaL (hide r J) v d ∧ Da (hide r J) v3 d3 ∧ DueAt (hide r J) u (due2 d), ?_, ?_⟩
      rotate_left
      · cases hdu : due1 d with
        | some e =>
          rw [hdu] at du12
          obtain ⟨⟨p, rfl⟩, Dd, Sd⟩ := du12
          exact ⟨_, rfl, _, rfl, iteF ⟨_, _, _, rfl, X12, R12, t12, hd12, h312, .of (due2_of hdu) rfl Dd Sd⟩⟩
        | none =>
          rw [hdu] at du12
          obtain rfl : u = .non := du12
          obtain ⟨ds, rfl, fb⟩ := due1_list hdu
          obtain ⟨a, xs, rfl, ga, hx⟩ := hd12.list
          have ka := hide_same r J12 _ _ ga
          have lx := hx.len
          have l4 := (ls.2 ds rfl).1
          have od := (ls.2 ds rfl).2
          have wins := fBad_none fb
          refine ⟨_, rfl, _, rfl, iteT ?_⟩
          refine ⟨_, rfl, _, rfl, _, rfl, a, _, rfl, SqL.of ka, fun p13 hp13 => ?_⟩
          rw [cut_tl]
          obtain ⟨J13, j13, S13, U13, R13, k13, g13⟩ := stp (o := .lst xs.tail) R12 hp13
          rw [j13]
          have ka13 := S13 _ _ ka
          refine ⟨a, p13, _, _, rfl, SqL.of ka13, SqL.of k13, fun D hD => ?_⟩
          have hn : ds.length - 1 = min xs.length xs.tail.length := by
            rw [List.length_tail, lx]
            omega
          refine lc_it (walk_zip (xs := xs) (ys := xs.tail) hn) (fun i J => Same J13 J ∧ J D = some (.lst (((falD ds).take i).map V.bl)))
            ⟨new_same hD, upd_same⟩ (fun i J _ h => ⟨SqL.of (h.1 _ _ ka13), SqL.of (h.1 _ _ k13)⟩) ?_ ?_
          · rintro i x J J' hi ⟨SJ, kJ⟩ ⟨TT, z, y, rfl, hTT, rfl, hz, hy⟩
            have hz2 : xs[i]? = some z := hz
            have hy2 : xs[i + 1]? = some y := by
              have hy3 : xs.tail[i]? = some y := hy
              rw [List.getElem?_tail] at hy3
              exact hy3
            obtain ⟨dz, ez, az⟩ := da_get hx hz2
            obtain ⟨dy, ey, ay⟩ := da_get hx hy2
            have fg := fal_get ez ey
            have mz := List.mem_of_getElem? ez
            have my := List.mem_of_getElem? ey
            obtain ⟨wz, rfl, _⟩ := winB_inv (wins dz mz)
            obtain ⟨wy, rfl, _⟩ := winB_inv (wins dy my)
            obtain ⟨tz, rfl, wzt⟩ := win_at az
            obtain ⟨ty, rfl, wyt⟩ := win_at ay
            rw [ris_wD, fal_top (hi_of (od _ mz)) (hi_of (od _ my))] at fg
            have S2 := SJ.trans (new_same (o := .tup [.ref tz, .ref ty]) hTT)
            have S122 := S13.trans S2
            have az2 : WinAt (upd J TT (.tup [.ref tz, .ref ty])) tz wz := S122 _ _ (hide_same r J12 _ _ wzt)
            have ay2 : WinAt (upd J TT (.tup [.ref tz, .ref ty])) ty wy := S122 _ _ (hide_same r J12 _ _ wyt)
            have nD : D ≠ TT := ne_of_none kJ hTT
            have kJ2 : (upd J TT (.tup [.ref tz, .ref ty])) D = some (.lst (((falD ds).take i).map V.bl)) := by
              rw [upd_ne nD]
              exact kJ
            have fin : ∀ b : Bool, (decide (wy.1 < wz.1) || decide (topI wy < topI wz)) = b → ∃ acc, (upd J TT (.tup [.ref tz, .ref ty])) D = some (.lst acc) ∧ acc.length < sizeLine ∧
                (Same J13 (upd (upd J TT (.tup [.ref tz, .ref ty])) D (.lst (acc ++ [V.bl b]))) ∧ (upd (upd J TT (.tup [.ref tz, .ref ty])) D (.lst (acc ++ [V.bl b]))) D = some (.lst (((falD ds).take (i + 1)).map V.bl))) := by
              intro b hb
              rw [hb] at fg
              refine ⟨_, kJ2, ?_, ?_, ?_⟩
              · rw [List.length_map, List.length_take, sizeLine_eq]
                omega
              · intro q o e
                rw [upd_ne (ne_of_none e hD)]
                exact S2 q o e
              · rw [upd_same, take_next fg, List.map_append]
                rfl
            refine ⟨TT, _, rfl, SqT.of upd_same, rfl, _, _, rfl, _, _, rfl, rfl, rfl, yesT ?_⟩
            refine ⟨_, rfl, tz, _, _, _, rfl, rfl, SqT.of az2, rfl, _, rfl, ty, _, _, _, rfl, rfl, SqT.of ay2, rfl, _, _, rfl, rfl, _, rfl, ?_⟩
            by_cases hlt : wy.1 < wz.1
            · rw [decide_eq_true hlt]
              exact iteT (fin true (by rw [decide_eq_true hlt]; rfl))
            · rw [decide_eq_false hlt]
              refine iteF ⟨_, rfl, tz, wz, rfl, az2, _, rfl, ty, wy, rfl, ay2, _, _, rfl, rfl, fin _ (by rw [decide_eq_false hlt]; rfl)⟩
          · rintro J ⟨SJ, kJ⟩
            rw [List.take_of_length_le (by rw [fal_len]; exact Nat.le_refl _)] at kJ
            have S2 := S13.trans SJ
            refine ⟨_, rfl, D, _, rfl, .inl (SqL.of kJ), rfl, flat_bl _, _, rfl, ?_⟩
            have cond : (if false = true then !inV (V.bl true) ((falD ds).map V.bl) else inV (V.bl true) ((falD ds).map V.bl)) = (fIdx (falD ds)).isSome := in_bl _
            rw [cond]
            cases fi : fIdx (falD ds) with
            | none =>
              refine iteF ⟨_, rfl, ?_⟩
              exact ⟨_, _, _, rfl, X12.trans (ExtR.ext (Ext.of S2)), R12.same S2, t12.ext S2, hd12.mono (hide_to S2), h3 _, .no (by rw [due2_ok fb, firstFall, fi]; rfl)⟩
            | some k =>
              obtain ⟨kl, ka1, kb⟩ := fIdx_inv fi
              have w1 : ((falD ds).map V.bl)[k]? = some (.bl true) := by rw [at_bl kl, ka1]
              have w2 : ∀ (m : Nat) (z' : V), m < k → ((falD ds).map V.bl)[m]? = some z' → eqV z' (.bl true) = false := by
                intro m z' hm hz
                rw [at_bl (show m < (falD ds).length by omega), kb m hm] at hz
                cases hz
                rfl
              refine iteT ⟨_, rfl, .inl ⟨rfl, _, SqL.of kJ⟩, D, _, .bl true, k, .bl true, rfl, rfl, SqL.of kJ, rfl, flat_bl _, w1, rfl, w2, _, _, rfl, rfl, (by show 2 ≤ sizeLine; decide), fun p hp np => ?_⟩
              have e3 : (1 + (k : Int)) = ((k + 1 : Nat) : Int) := by omega
              have S3 := S2.trans (new_same (o := .lst [V.str "windows", V.int (1 + (k : Int))]) hp)
              have ff : firstFall ds = some (k + 1) := by unfold firstFall; rw [fi]; rfl
              have fl := ff_le ff
              refine ⟨_, _, _, rfl, X12.trans (ExtR.ext (Ext.of S3)), R12.same S3, t12.ext S3, hd12.mono (hide_to S3), h3 _, .of (e := L2d "windows" (.int ((k + 1 : Nat) : Int))) (by rw [due2_ok fb, ff]; rfl) rfl ?_ (shw2 nmS (okNat (by omega)))⟩
              rw [← e3]
              exact .lst np (hide_get (Rng.free (R12.same S2) hp).symm upd_same) (.cons (.str _) (.cons (.int _) .nil))
      clear du12 hd12 t12 X12 R12
      rintro σ J14 ⟨u, c5, c6, rfl, X14, R14, t14, hd14, h314, du14⟩
      refine ⟨fun (σ : L2.St) (J : Hp) => ∃ (u : V) (c5 c6 : Option V), σ = [some (V.ref r), some v, some v3, some (.str d.shown), some u, c5, c6, none, none, none, none] ∧ ExtR r H J ∧ Rng J r ∧ Tabs tb J ∧ DaL (hide r J) v d ∧ Da (hide r J) v3 d3 ∧ DueAt (hide r J) u (due3 d d3), ?_, ?_⟩
      rotate_left
      · cases hdu : due2 d with
        | some e =>
          rw [hdu] at du14
          obtain ⟨⟨p, rfl⟩, Dd, Sd⟩ := du14
          exact ⟨_, rfl, _, rfl, iteF (iteF ⟨_, _, _, rfl, X14, R14, t14, hd14, h314, .of (due3_of hdu) rfl Dd Sd⟩)⟩
        | none =>
          rw [hdu] at du14
          obtain rfl : u = .non := du14
          refine ⟨_, rfl, _, rfl, iteT ⟨_, rfl, v3, d3, rfl, h3 _, _, rfl, ?_⟩⟩
          cases hv : verB d3 with
          | true => exact iteF ⟨_, _, _, rfl, X14, R14, t14, hd14, h314, .no (by rw [due3_no hdu, hv]; rfl)⟩
          | false =>
            refine iteT ⟨_, rfl, (by show 2 ≤ sizeLine; decide), fun p hp np => ?_⟩
            have S3 := new_same (o := .lst [V.str "version", v3]) hp
            exact ⟨_, _, _, rfl, X14.trans (ExtR.ext (Ext.of S3)), R14.same S3, t14.ext S3, hd14.mono (hide_to S3), h3 _, .of (by rw [due3_no hdu, hv]; rfl) rfl (.lst np (hide_get (R14.free hp).symm upd_same) (.cons (.str _) (.cons (h3 _) .nil))) (shw2 nmV o3)⟩
      clear du14 hd14 t14 X14 R14
      rintro σ J15 ⟨u, c5, c6, rfl, X15, R15, t15, hd15, h315, du15⟩
      refine run_least t15 (hd15.mono (hide_same r J15)) (h3 _) ls o3 rfl rfl (fun z J16 e16 t16 tl => ?_)
      refine ⟨fun (σ : L2.St) (J : Hp) => ∃ (u : V) (c5 c6 : Option V), σ = [some (V.ref r), some v, some v3, some (.str d.shown), some u, c5, c6, none, none, none, none] ∧ ExtR r H J ∧ Rng J r ∧ Tabs tb J ∧ DaL (hide r J) v d ∧ Da (hide r J) v3 d3 ∧ DueAt (hide r J) u (due3 d d3), ?_, ?_⟩
      rotate_left
      · skip
        cases hdu : due3 d d3 with
        | none =>
          rw [hdu] at du15
          obtain rfl : u = .non := du15
          obtain ⟨x, rfl, sh⟩ := tl.2 hdu
          refine ⟨_, rfl, _, rfl, iteF (iteF ⟨_, rfl, _, rfl, iteT ⟨_, rfl, _, rfl, _, rfl, _, rfl, sh.2.2, ?_⟩⟩)⟩
          rw [told_cut]
          refine ⟨rfl, _, rfl, ?_⟩
          rw [decide_eq_true rfl]
          exact iteF ⟨_, _, _, rfl, X15.trans (ExtR.extN e16), R15.extN e16, t16, hd15.monoN (hide_extN e16), h3 _, .no rfl⟩
        | some e =>
          rw [hdu] at du15
          obtain ⟨⟨p, rfl⟩, Dd, Sd⟩ := du15
          obtain rfl := tl.1 e hdu
          have DJ := (Dd.mono (hide_same r _)).monoN e16
          refine ⟨_, rfl, _, rfl, iteT ⟨_, rfl, _, rfl, _, _, rfl, DJ, Sd, rfl, _, rfl, ?_⟩⟩
          rw [decide_eq_true rfl]
          exact iteF ⟨_, rfl, _, rfl, iteF (iteF ⟨_, _, _, rfl, X15.trans (ExtR.extN e16), R15.extN e16, t16, hd15.monoN (hide_extN e16), h3 _, .of rfl rfl (Dd.monoN (hide_extN e16)) Sd⟩)⟩
      rintro σ J17 ⟨u, c5, c6, rfl, X17, R17, t17, hd17, h317, du17⟩
      refine ⟨_, rfl, v, d, rfl, hd17.mono (hide_same r J17), ls.1, _, rfl, rfl, ?_⟩
      rw [decide_eq_true rfl]
      exact q J17 X17 R17 t17
    obtain ⟨t, p, rd⟩ := body
    exact ⟨t, p.nox, rd⟩
end
end N6
set_option maxHeartbeats 4000000
namespace N6
open PySem PySem.Spec PyProof.Rows L2 G N4 LamX
def spLaw (K : PySem.W.Frag) (T : List (Addr × Str)) : Sp := fun vs H Q _ => ∃ (a : Addr) (ns : List Int), vs = [.ref a] ∧
  SqL K H a (ns.map V.int) ∧ ns.length ≤ 63 ∧ Tabs T H ∧ ∀ H', Q (.bl true) H'
abbrev NL : List Str := ["_law_script", "_law_k", "_law_rng_here", "_law_turn"]
section
variable {P : Program} {w : World} {K : PySem.W.Frag} {mg : Str → Option Value} {base : Heap}
theorem scL : FnScope NL ["_law_script"] (defScope sLaw) :=
  ⟨rfl, rfl, rfl, by decide +kernel, rfl, by decide +kernel, by decide +kernel⟩
theorem ok_law {f fG fS fY fX : Addr} {fd fdG fdS fdY fdX : FuncData} {tb : List (Addr × Str)} (F : Fun K "law" "law" sLaw f fd) (T : Txt mg)
    (GG : FnOk P w K mg base CX0 1 fG fdG ["_law_script", "_law_k"] (spRng K)) (kG : PySem.W.keepIn K (.ref fG) = true) (bG : Binds K fdG ["_law_script", "_law_k"] []) (gG : mg "_law_rng" = some (.ref fG))
    (GS : FnG P w K mg base CX0 9 fS fdS ["_law_rng_here"] (spPart tb)) (kS : PySem.W.keepIn K (.ref fS) = true) (bS : Binds K fdS ["_law_rng_here"] []) (gS : mg "_law_singles_right" = some (.ref fS))
    (GY : FnG P w K mg base CX0 9 fY fdY ["_law_rng_here"] (spPart tb)) (kY : PySem.W.keepIn K (.ref fY) = true) (bY : Binds K fdY ["_law_rng_here"] []) (gY : mg "_law_lists_right" = some (.ref fY))
    (GX : FnG P w K mg base CX0 9 fX fdX ["_law_rng_here"] (spPart tb)) (kX : PySem.W.keepIn K (.ref fX) = true) (bX : Binds K fdX ["_law_rng_here"] []) (gX : mg "_law_texts_right" = some (.ref fX)) :
    FnG P w K mg base CX0 10 f fd ["_law_script"] (spLaw K tb) := by
  refine okG F scL (fun vs H Q E h => ?_) (fun cdv A outer s H vs Q E gd hr h => ?_)
  · obtain ⟨a, ns, rfl, _⟩ := h
    rfl
  · obtain ⟨a, ns, rfl, hS, hlen, hT, q⟩ := h
    have hrG : Room 1 _ := hr.mono (by decide)
    have hrS : Room 9 _ := hr
    have hrY : Room 9 _ := hr
    have hrX : Room 9 _ := hr
    have nd := scL.nd
    refine ⟨_, pss_cons (ps_for PassesOwn.never rfl (pi_range1 (by rfl) T.range (pa_cons
          (pe_callB (call_max2 rfl) (by rfl) T.max (by decide +kernel) (pa_cons pe_int (pa_cons
            (pe_callB (call_min2 rfl) (by rfl) T.min (by decide +kernel) (pa_cons (pe_callB call_len_seq (by rfl) T.len PySem.boot_len (pa_cons (pv 0) pa_nil)) (pa_cons pe_int pa_nil))) pa_nil))) pa_nil))
        (pg_name (i := 1) nd rfl (Or.inl rfl))
        (pss_cons (ps_set (i := 2) nd rfl (Or.inl rfl) (pe_call GG hrG (by rfl) gG kG bG .nil pass0 (pa_cons (pv 0) (pa_cons (pv 1) pa_nil))))
        (pss_one (ps_for PassesOwn.never rfl (pi_range1 (by rfl) T.range (pa_cons pe_int pa_nil)) (pg_name (i := 3) nd rfl (Or.inl rfl))
          (pss_one (ps_if (PW.pt (pw_or (pt_not (pt_val (pe_callG GS gd hrS (by rfl) gS kS bS .nil pass0 (pa_cons (pv 2) pa_nil)))) (pw_or (pt_not (pt_val (pe_callG GY gd hrY (by rfl) gY kY bY .nil pass0 (pa_cons (pv 2) pa_nil)))) (pw_or1 (pt_not (pt_val (pe_callG GX gd hrX (by rfl) gX kX bX .nil pass0 (pa_cons (pv 2) pa_nil)))))))) (pss_one (ps_ret pe_bl)) pss_nil))))))
      (pss_one (ps_ret pe_bl)), ?_⟩
    have hN : ∀ L : Int, 0 ≤ L → 0 ≤ (if (if 5 < L then 5 else L) > 1 then (if 5 < L then 5 else L) else 1) ∧
        (if (if 5 < L then 5 else L) > 1 then (if 5 < L then 5 else L) else 1) ≤ 10 := by
      intro L hL
      by_cases h1 : 5 < L
      · rw [if_pos h1]
        decide
      · rw [if_neg h1]
        split <;> omega
    have hN2 := hN ((ns.map V.int).length : Nat) (by omega)
    refine ⟨_, rfl, a, _, rfl, .inl hS, _, _, rfl, _, _, rfl, _, rfl, by omega, by omega, ?_⟩
    generalize (if (if (5 : Int) < ((ns.map V.int).length : Int) then 5 else ((ns.map V.int).length : Int)) > 1 then (if (5 : Int) < ((ns.map V.int).length : Int) then 5 else ((ns.map V.int).length : Int)) else 1) = n at hN2
    refine for_range (lo := 0) (n := n.toNat) (fun i σ J => ∃ c1 c2 c3, σ = [some (.ref a), c1, c2, c3] ∧ SqL K J a (ns.map V.int) ∧ Tabs tb J) ⟨_, _, _, rfl, hS, hT⟩ ?_ ?_
    · rintro i σ J0 hi ⟨c1, c2, c3, rfl, hS0, hT0⟩
      refine ⟨_, rfl, _, rfl, a, ns, _, rfl, hS0, by omega, by omega, fun r J1 fr S1 R1 => ?_⟩
      refine ⟨_, rfl, by decide, by decide, ?_⟩
      refine for_range (lo := 0) (n := 4) (fun i σ J => ∃ k c3, σ = [some (.ref a), k, some (.ref r), c3] ∧ ExtR r J0 J ∧ Rng J r ∧ Tabs tb J)
        ⟨_, _, rfl, fun b o _ _ h => S1 b o h, R1, hT0.ext S1⟩ ?_ ?_
      · rintro j σ J2 hj ⟨k, c3, rfl, E2, R2, T2⟩
        refine ⟨_, rfl, r, rfl, R2, T2, fun J3 E3 R3 T3 => ⟨_, rfl, iteF ?_⟩⟩
        refine ⟨_, rfl, r, rfl, R3, T3, fun J4 E4 R4 T4 => ⟨_, rfl, iteF ?_⟩⟩
        refine ⟨_, rfl, r, rfl, R4, T4, fun J5 E5 R5 T5 => ⟨_, rfl, iteF ?_⟩⟩
        exact ⟨_, _, rfl, ((E2.trans E3).trans E4).trans E5, R5, T5⟩
      · rintro σ J ⟨k, c3, rfl, E2, R2, T2⟩
        exact ⟨_, _, _, rfl, sq_extR hS0 fr E2, T2⟩
    · rintro σ J ⟨c1, c2, c3, rfl, _⟩
      exact q J
end
end N6
set_option maxHeartbeats 4000000
namespace N6
open PySem PySem.Spec PyProof.Rows L2 G N4 LamX

theorem scIW : FnScope ["self", "value"] ["self", "value"] (defScope sIniW) :=
  ⟨rfl, rfl, rfl, by decide +kernel, rfl, by decide +kernel, by decide +kernel⟩
theorem scIS : FnScope ["self", "position"] ["self", "position"] (defScope sIniS) :=
  ⟨rfl, rfl, rfl, by decide +kernel, rfl, by decide +kernel, by decide +kernel⟩
theorem scIV : FnScope ["self", "value"] ["self", "value"] (defScope sIniV) :=
  ⟨rfl, rfl, rfl, by decide +kernel, rfl, by decide +kernel, by decide +kernel⟩
theorem scIE : FnScope ["self", "line"] ["self", "line"] (defScope sIniT) :=
  ⟨rfl, rfl, rfl, by decide +kernel, rfl, by decide +kernel, by decide +kernel⟩
theorem all_mk {l : PySem.W.OpenLaw} {w : World} {K : PySem.W.Frag} {h : Heap} {mg : Str → Option Value}
    {fa f1 f2 f3 f4 f5 f6 f7 f8 f9 f10 f11 f12 f13 f14 f15 f16 f17 f18 f19 f20 f21 f22 f23 f24 f25 f26 f27 : Addr} {cc21 tt21 cc23 tt23 cc26 tt26 : Addr} {t1 : Tok} (X : K.In h) (gl : h.Ns mainGlobals mg) (hfa : mg "law" = some (.ref fa))
    {od1 an1 od2 an2 od3 an3 od4 an4 od5 an5 od6 an6 od7 an7 od8 an8 od9 an9 od10 an10 od11 an11 od12 an12 od13 an13 od14 an14 od15 an15 od16 an16 od17 an17 od18 an18 od19 an19 od20 an20 od21 an21 od22 an22 od23 an23 od24 an24 od25 an25 od26 an26 od27 an27 : Option Addr} {sl1 sl2 sl3 sl4 sl5 sl6 sl7 sl8 sl9 sl10 sl11 sl12 sl13 sl14 sl15 sl16 sl17 sl18 sl19 sl20 sl21 sl22 sl23 sl24 sl25 sl26 sl27 : Array (Option Value)}
    {oc1 kV1 dc1 pm1 cd1 ct1 oc2 kV2 dc2 pm2 cd2 ct2 oc3 kV3 dc3 pm3 cd3 ct3 oc4 kV4 dc4 pm4 cd4 ct4 oc5 kV5 dc5 pm5 cd5 ct5 oc6 kV6 dc6 pm6 cd6 ct6 oc7 kV7 dc7 pm7 cd7 ct7 oc8 kV8 dc8 pm8 cd8 ct8 oc9 kV9 dc9 pm9 cd9 ct9 oc10 kV10 dc10 pm10 cd10 ct10 oc11 kV11 dc11 pm11 cd11 ct11 oc12 kV12 dc12 pm12 cd12 ct12 oc13 kV13 dc13 pm13 cd13 ct13 oc14 kV14 dc14 pm14 cd14 ct14 oc15 kV15 dc15 pm15 cd15 ct15 oc16 kV16 dc16 pm16 cd16 ct16 oc17 kV17 dc17 pm17 cd17 ct17 oc18 kV18 dc18 pm18 cd18 ct18 oc19 kV19 dc19 pm19 cd19 ct19 oc20 kV20 dc20 pm20 cd20 ct20 oc21 kV21 dc21 pm21 ct21 oc22 kV22 dc22 pm22 cd22 ct22 oc23 kV23 dc23 pm23 ct23 oc24 kV24 dc24 pm24 cd24 ct24 oc25 kV25 dc25 pm25 cd25 ct25 oc26 kV26 dc26 pm26 ct26 oc27 kV27 dc27 pm27 cd27 ct27 : Value}
    (a1 : PySem.W.nsIn K mainGlobals "is_version" = some (some (.ref f1)))
    (l1 : K.lookup f1 = some ⟨oc1, od1, .func (PySem.W.fnOf "is_version" "is_version" (defArgs sIsVer) (defBody sIsVer) (defScope sIsVer) .none kV1 dc1 pm1 an1 cd1 ct1), sl1⟩)
    (c1 : PySem.W.codeIn K cd1 "is_version" = true) (k1 : PySem.W.keepIn K (.ref f1) = true)
    (a2 : PySem.W.nsIn K mainGlobals "require_version" = some (some (.ref f2)))
    (l2 : K.lookup f2 = some ⟨oc2, od2, .func (PySem.W.fnOf "require_version" "require_version" (defArgs sReqVer) (defBody sReqVer) (defScope sReqVer) .none kV2 dc2 pm2 an2 cd2 ct2), sl2⟩)
    (c2 : PySem.W.codeIn K cd2 "require_version" = true) (k2 : PySem.W.keepIn K (.ref f2) = true)
    (a3 : PySem.W.nsIn K mainGlobals "is_version_text" = some (some (.ref f3)))
    (l3 : K.lookup f3 = some ⟨oc3, od3, .func (PySem.W.fnOf "is_version_text" "is_version_text" (defArgs sVT) (defBody sVT) (defScope sVT) .none kV3 dc3 pm3 an3 cd3 ct3), sl3⟩)
    (c3 : PySem.W.codeIn K cd3 "is_version_text" = true) (k3 : PySem.W.keepIn K (.ref f3) = true)
    (a4 : PySem.W.nsIn K mainGlobals "is_window" = some (some (.ref f4)))
    (l4 : K.lookup f4 = some ⟨oc4, od4, .func (PySem.W.fnOf "is_window" "is_window" (defArgs sIsWin) (defBody sIsWin) (defScope sIsWin) .none kV4 dc4 pm4 an4 cd4 ct4), sl4⟩)
    (c4 : PySem.W.codeIn K cd4 "is_window" = true) (k4 : PySem.W.keepIn K (.ref f4) = true)
    (a5 : PySem.W.nsIn K mainGlobals "require_window" = some (some (.ref f5)))
    (l5 : K.lookup f5 = some ⟨oc5, od5, .func (PySem.W.fnOf "require_window" "require_window" (defArgs sReqWin) (defBody sReqWin) (defScope sReqWin) .none kV5 dc5 pm5 an5 cd5 ct5), sl5⟩)
    (c5 : PySem.W.codeIn K cd5 "require_window" = true) (k5 : PySem.W.keepIn K (.ref f5) = true)
    (a6 : PySem.W.nsIn K mainGlobals "require_windows" = some (some (.ref f6)))
    (l6 : K.lookup f6 = some ⟨oc6, od6, .func (PySem.W.fnOf "require_windows" "require_windows" (defArgs sReqWins) (defBody sReqWins) (defScope sReqWins) .none kV6 dc6 pm6 an6 cd6 ct6), sl6⟩)
    (c6 : PySem.W.codeIn K cd6 "require_windows" = true) (k6 : PySem.W.keepIn K (.ref f6) = true)
    (a7 : PySem.W.nsIn K mainGlobals "reaches" = some (some (.ref f7)))
    (l7 : K.lookup f7 = some ⟨oc7, od7, .func (PySem.W.fnOf "reaches" "reaches" (defArgs sReach) (defBody sReach) (defScope sReach) .none kV7 dc7 pm7 an7 cd7 ct7), sl7⟩)
    (c7 : PySem.W.codeIn K cd7 "reaches" = true) (k7 : PySem.W.keepIn K (.ref f7) = true)
    (a8 : PySem.W.nsIn K mainGlobals "contains" = some (some (.ref f8)))
    (l8 : K.lookup f8 = some ⟨oc8, od8, .func (PySem.W.fnOf "contains" "contains" (defArgs sCont) (defBody sCont) (defScope sCont) .none kV8 dc8 pm8 an8 cd8 ct8), sl8⟩)
    (c8 : PySem.W.codeIn K cd8 "contains" = true) (k8 : PySem.W.keepIn K (.ref f8) = true)
    (a9 : PySem.W.nsIn K mainGlobals "rises" = some (some (.ref f9)))
    (l9 : K.lookup f9 = some ⟨oc9, od9, .func (PySem.W.fnOf "rises" "rises" (defArgs sRises) (defBody sRises) (defScope sRises) .none kV9 dc9 pm9 an9 cd9 ct9), sl9⟩)
    (c9 : PySem.W.codeIn K cd9 "rises" = true) (k9 : PySem.W.keepIn K (.ref f9) = true)
    (a10 : PySem.W.nsIn K mainGlobals "first_falling" = some (some (.ref f10)))
    (l10 : K.lookup f10 = some ⟨oc10, od10, .func (PySem.W.fnOf "first_falling" "first_falling" (defArgs sFall) (defBody sFall) (defScope sFall) .none kV10 dc10 pm10 an10 cd10 ct10), sl10⟩)
    (c10 : PySem.W.codeIn K cd10 "first_falling" = true) (k10 : PySem.W.keepIn K (.ref f10) = true)
    (a11 : PySem.W.nsIn K mainGlobals "least_reaching" = some (some (.ref f11)))
    (l11 : K.lookup f11 = some ⟨oc11, od11, .func (PySem.W.fnOf "least_reaching" "least_reaching" (defArgs sLeast) (defBody sLeast) (defScope sLeast) .none kV11 dc11 pm11 an11 cd11 ct11), sl11⟩)
    (c11 : PySem.W.codeIn K cd11 "least_reaching" = true) (k11 : PySem.W.keepIn K (.ref f11) = true)
    (a12 : PySem.W.nsIn K mainGlobals "format_window" = some (some (.ref f12)))
    (l12 : K.lookup f12 = some ⟨oc12, od12, .func (PySem.W.fnOf "format_window" "format_window" (defArgs sFmt) (defBody sFmt) (defScope sFmt) .none kV12 dc12 pm12 an12 cd12 ct12), sl12⟩)
    (c12 : PySem.W.codeIn K cd12 "format_window" = true) (k12 : PySem.W.keepIn K (.ref f12) = true)
    (a13 : PySem.W.nsIn K mainGlobals "parse_window" = some (some (.ref f13)))
    (l13 : K.lookup f13 = some ⟨oc13, od13, .func (PySem.W.fnOf "parse_window" "parse_window" (defArgs sParse) (defBody sParse) (defScope sParse) .none kV13 dc13 pm13 an13 cd13 ct13), sl13⟩)
    (c13 : PySem.W.codeIn K cd13 "parse_window" = true) (k13 : PySem.W.keepIn K (.ref f13) = true)
    (a14 : PySem.W.nsIn K mainGlobals "_law_rng" = some (some (.ref f14)))
    (l14 : K.lookup f14 = some ⟨oc14, od14, .func (PySem.W.fnOf "_law_rng" "_law_rng" (defArgs sRng) (defBody sRng) (defScope sRng) .none kV14 dc14 pm14 an14 cd14 ct14), sl14⟩)
    (c14 : PySem.W.codeIn K cd14 "_law_rng" = true) (k14 : PySem.W.keepIn K (.ref f14) = true)
    (a15 : PySem.W.nsIn K mainGlobals "_law_draw" = some (some (.ref f15)))
    (l15 : K.lookup f15 = some ⟨oc15, od15, .func (PySem.W.fnOf "_law_draw" "_law_draw" (defArgs sDraw) (defBody sDraw) (defScope sDraw) .none kV15 dc15 pm15 an15 cd15 ct15), sl15⟩)
    (c15 : PySem.W.codeIn K cd15 "_law_draw" = true) (k15 : PySem.W.keepIn K (.ref f15) = true)
    (a16 : PySem.W.nsIn K mainGlobals "_law_choice" = some (some (.ref f16)))
    (l16 : K.lookup f16 = some ⟨oc16, od16, .func (PySem.W.fnOf "_law_choice" "_law_choice" (defArgs sChoice) (defBody sChoice) (defScope sChoice) .none kV16 dc16 pm16 an16 cd16 ct16), sl16⟩)
    (c16 : PySem.W.codeIn K cd16 "_law_choice" = true) (k16 : PySem.W.keepIn K (.ref f16) = true)
    (a17 : PySem.W.nsIn K mainGlobals "_law_is_count" = some (some (.ref f17)))
    (l17 : K.lookup f17 = some ⟨oc17, od17, .func (PySem.W.fnOf "_law_is_count" "_law_is_count" (defArgs sLIC) (defBody sLIC) (defScope sLIC) .none kV17 dc17 pm17 an17 cd17 ct17), sl17⟩)
    (c17 : PySem.W.codeIn K cd17 "_law_is_count" = true) (k17 : PySem.W.keepIn K (.ref f17) = true)
    (a18 : PySem.W.nsIn K mainGlobals "_law_is_window" = some (some (.ref f18)))
    (l18 : K.lookup f18 = some ⟨oc18, od18, .func (PySem.W.fnOf "_law_is_window" "_law_is_window" (defArgs sLIW) (defBody sLIW) (defScope sLIW) .none kV18 dc18 pm18 an18 cd18 ct18), sl18⟩)
    (c18 : PySem.W.codeIn K cd18 "_law_is_window" = true) (k18 : PySem.W.keepIn K (.ref f18) = true)
    (a19 : PySem.W.nsIn K mainGlobals "_law_odd" = some (some (.ref f19)))
    (l19 : K.lookup f19 = some ⟨oc19, od19, .func (PySem.W.fnOf "_law_odd" "_law_odd" (defArgs sOdd) (defBody sOdd) (defScope sOdd) .none kV19 dc19 pm19 an19 cd19 ct19), sl19⟩)
    (c19 : PySem.W.codeIn K cd19 "_law_odd" = true) (k19 : PySem.W.keepIn K (.ref f19) = true)
    (a20 : PySem.W.nsIn K mainGlobals "_law_told" = some (some (.ref f20)))
    (l20 : K.lookup f20 = some ⟨oc20, od20, .func (PySem.W.fnOf "_law_told" "_law_told" (defArgs sTold) (defBody sTold) (defScope sTold) .none kV20 dc20 pm20 an20 cd20 ct20), sl20⟩)
    (c20 : PySem.W.codeIn K cd20 "_law_told" = true) (k20 : PySem.W.keepIn K (.ref f20) = true)
    (a21 : PySem.W.nsIn K mainGlobals "_law_singles_right" = some (some (.ref f21)))
    (l21 : K.lookup f21 = some ⟨oc21, od21, .func (PySem.W.fnOf "_law_singles_right" "_law_singles_right" (defArgs sSingle) (defBody sSingle) (defScope sSingle) .none kV21 dc21 pm21 an21 (.ref cc21) ct21), sl21⟩)
    (c21 : PySem.W.codeIn K (.ref cc21) "_law_singles_right" = true) (k21 : PySem.W.keepIn K (.ref f21) = true)
    (a22 : PySem.W.nsIn K mainGlobals "_law_top" = some (some (.ref f22)))
    (l22 : K.lookup f22 = some ⟨oc22, od22, .func (PySem.W.fnOf "_law_top" "_law_top" (defArgs sTop) (defBody sTop) (defScope sTop) .none kV22 dc22 pm22 an22 cd22 ct22), sl22⟩)
    (c22 : PySem.W.codeIn K cd22 "_law_top" = true) (k22 : PySem.W.keepIn K (.ref f22) = true)
    (a23 : PySem.W.nsIn K mainGlobals "_law_lists_right" = some (some (.ref f23)))
    (l23 : K.lookup f23 = some ⟨oc23, od23, .func (PySem.W.fnOf "_law_lists_right" "_law_lists_right" (defArgs sLists) (defBody sLists) (defScope sLists) .none kV23 dc23 pm23 an23 (.ref cc23) ct23), sl23⟩)
    (c23 : PySem.W.codeIn K (.ref cc23) "_law_lists_right" = true) (k23 : PySem.W.keepIn K (.ref f23) = true)
    (a24 : PySem.W.nsIn K mainGlobals "_law_number" = some (some (.ref f24)))
    (l24 : K.lookup f24 = some ⟨oc24, od24, .func (PySem.W.fnOf "_law_number" "_law_number" (defArgs sNumb) (defBody sNumb) (defScope sNumb) .none kV24 dc24 pm24 an24 cd24 ct24), sl24⟩)
    (c24 : PySem.W.codeIn K cd24 "_law_number" = true) (k24 : PySem.W.keepIn K (.ref f24) = true)
    (a25 : PySem.W.nsIn K mainGlobals "_law_read" = some (some (.ref f25)))
    (l25 : K.lookup f25 = some ⟨oc25, od25, .func (PySem.W.fnOf "_law_read" "_law_read" (defArgs sRead) (defBody sRead) (defScope sRead) .none kV25 dc25 pm25 an25 cd25 ct25), sl25⟩)
    (c25 : PySem.W.codeIn K cd25 "_law_read" = true) (k25 : PySem.W.keepIn K (.ref f25) = true)
    (a26 : PySem.W.nsIn K mainGlobals "_law_texts_right" = some (some (.ref f26)))
    (l26 : K.lookup f26 = some ⟨oc26, od26, .func (PySem.W.fnOf "_law_texts_right" "_law_texts_right" (defArgs sTexts) (defBody sTexts) (defScope sTexts) .none kV26 dc26 pm26 an26 (.ref cc26) ct26), sl26⟩)
    (c26 : PySem.W.codeIn K (.ref cc26) "_law_texts_right" = true) (k26 : PySem.W.keepIn K (.ref f26) = true)
    (a27 : PySem.W.nsIn K mainGlobals "law" = some (some (.ref f27)))
    (l27 : K.lookup f27 = some ⟨oc27, od27, .func (PySem.W.fnOf "law" "law" (defArgs sLaw) (defBody sLaw) (defScope sLaw) .none kV27 dc27 pm27 an27 cd27 ct27), sl27⟩)
    (c27 : PySem.W.codeIn K cd27 "law" = true) (k27 : PySem.W.keepIn K (.ref f27) = true)
    (w21 : PySem.W.tabIn K "_law_singles_right" = some (cc21, tt21)) (v21 : K.lookup tt21 = none)
    (w23 : PySem.W.tabIn K "_law_lists_right" = some (cc23, tt23)) (v23 : K.lookup tt23 = none)
    (w26 : PySem.W.tabIn K "_law_texts_right" = some (cc26, tt26)) (v26 : K.lookup tt26 = none)
    (y1 : PySem.W.nsIn K mainGlobals "DIGITS" = some (some (.str DIG t1)))
    {CG CW CS CV CE fIW fIS fIV fIE : Addr}
    (aG : PySem.W.nsIn K mainGlobals "GroupError" = some (some (.ref CG)))
    {nmW qW : Str} {NW : Addr} {bsW : List Value} {snW : List Str} {subW : List Value} {abW : Bool} {colW : Option Bool} {ddW : Option Addr} {m0W m1W m2W m3W m5W : Option Value}
    {odIW anIW : Option Addr} {slIW : Array (Option Value)} {ocIW kVIW dcIW pmIW cdIW ctIW : Value}
    (aW : PySem.W.nsIn K mainGlobals "InvalidWindow" = some (some (.ref CW)))
    (xW : K.lookup CW = some (excClassObj nmW qW CW NW bsW [.ref CG, .type "ValueError", .type "Exception", .type "BaseException", .type "object"] true snW subW abW colW ddW m0W m1W m2W m3W m5W "ValueError.__new__"))
    (saW : PySem.W.findIn K (.ref CW) "__setattr__" = some (some (.builtin "object.__setattr__")))
    (exW : PySem.W.subIn K (.ref CW) (.type "BaseException") = some true)
    (tyW : PySem.W.typeIn K (.ref CW) = some (.type "type"))
    (kcW : PySem.W.keepIn K (.ref CW) = true)
    (gaW : PySem.W.findIn K (.ref CW) "__getattribute__" = some (some (.builtin "BaseException.__getattribute__")))
    (ggW : PySem.W.findIn K (.ref CW) "__getattr__" = some none)
    (hdW : PySem.W.hasDictIn K CW = true)
    (haW : PySem.W.findIn K (.ref CW) "__class__" = some (some (.builtin "object.__class__")))
    (hmW : PySem.W.mroIn K CW (.type "object") = some true)
    (noW : PySem.W.findIn K (.ref CW) "value" = some none)
    (inW : PySem.W.findIn K (.ref CW) "__init__" = some (some (.ref fIW)))
    (tiW : PySem.W.typeIn K (.ref fIW) = some (.type "function"))
    (liW : K.lookup fIW = some ⟨ocIW, odIW, .func (PySem.W.fnOf "__init__" "InvalidWindow.__init__" (defArgs sIniW) (defBody sIniW) (defScope sIniW) .none kVIW dcIW pmIW anIW cdIW ctIW), slIW⟩)
    (ciW : PySem.W.codeIn K cdIW "InvalidWindow.__init__" = true)
    (kiW : PySem.W.keepIn K (.ref fIW) = true)
    {nmS qS : Str} {NS : Addr} {bsS : List Value} {snS : List Str} {subS : List Value} {abS : Bool} {colS : Option Bool} {ddS : Option Addr} {m0S m1S m2S m3S m5S : Option Value}
    {odIS anIS : Option Addr} {slIS : Array (Option Value)} {ocIS kVIS dcIS pmIS cdIS ctIS : Value}
    (aS : PySem.W.nsIn K mainGlobals "InvalidWindows" = some (some (.ref CS)))
    (xS : K.lookup CS = some (excClassObj nmS qS CS NS bsS [.ref CG, .type "ValueError", .type "Exception", .type "BaseException", .type "object"] true snS subS abS colS ddS m0S m1S m2S m3S m5S "ValueError.__new__"))
    (saS : PySem.W.findIn K (.ref CS) "__setattr__" = some (some (.builtin "object.__setattr__")))
    (exS : PySem.W.subIn K (.ref CS) (.type "BaseException") = some true)
    (tyS : PySem.W.typeIn K (.ref CS) = some (.type "type"))
    (kcS : PySem.W.keepIn K (.ref CS) = true)
    (gaS : PySem.W.findIn K (.ref CS) "__getattribute__" = some (some (.builtin "BaseException.__getattribute__")))
    (ggS : PySem.W.findIn K (.ref CS) "__getattr__" = some none)
    (hdS : PySem.W.hasDictIn K CS = true)
    (haS : PySem.W.findIn K (.ref CS) "__class__" = some (some (.builtin "object.__class__")))
    (hmS : PySem.W.mroIn K CS (.type "object") = some true)
    (noS : PySem.W.findIn K (.ref CS) "position" = some none)
    (inS : PySem.W.findIn K (.ref CS) "__init__" = some (some (.ref fIS)))
    (tiS : PySem.W.typeIn K (.ref fIS) = some (.type "function"))
    (liS : K.lookup fIS = some ⟨ocIS, odIS, .func (PySem.W.fnOf "__init__" "InvalidWindows.__init__" (defArgs sIniS) (defBody sIniS) (defScope sIniS) .none kVIS dcIS pmIS anIS cdIS ctIS), slIS⟩)
    (ciS : PySem.W.codeIn K cdIS "InvalidWindows.__init__" = true)
    (kiS : PySem.W.keepIn K (.ref fIS) = true)
    {nmV qV : Str} {NV : Addr} {bsV : List Value} {snV : List Str} {subV : List Value} {abV : Bool} {colV : Option Bool} {ddV : Option Addr} {m0V m1V m2V m3V m5V : Option Value}
    {odIV anIV : Option Addr} {slIV : Array (Option Value)} {ocIV kVIV dcIV pmIV cdIV ctIV : Value}
    (aV : PySem.W.nsIn K mainGlobals "InvalidVersion" = some (some (.ref CV)))
    (xV : K.lookup CV = some (excClassObj nmV qV CV NV bsV [.ref CG, .type "ValueError", .type "Exception", .type "BaseException", .type "object"] true snV subV abV colV ddV m0V m1V m2V m3V m5V "ValueError.__new__"))
    (saV : PySem.W.findIn K (.ref CV) "__setattr__" = some (some (.builtin "object.__setattr__")))
    (exV : PySem.W.subIn K (.ref CV) (.type "BaseException") = some true)
    (tyV : PySem.W.typeIn K (.ref CV) = some (.type "type"))
    (kcV : PySem.W.keepIn K (.ref CV) = true)
    (gaV : PySem.W.findIn K (.ref CV) "__getattribute__" = some (some (.builtin "BaseException.__getattribute__")))
    (ggV : PySem.W.findIn K (.ref CV) "__getattr__" = some none)
    (hdV : PySem.W.hasDictIn K CV = true)
    (haV : PySem.W.findIn K (.ref CV) "__class__" = some (some (.builtin "object.__class__")))
    (hmV : PySem.W.mroIn K CV (.type "object") = some true)
    (noV : PySem.W.findIn K (.ref CV) "value" = some none)
    (inV : PySem.W.findIn K (.ref CV) "__init__" = some (some (.ref fIV)))
    (tiV : PySem.W.typeIn K (.ref fIV) = some (.type "function"))
    (liV : K.lookup fIV = some ⟨ocIV, odIV, .func (PySem.W.fnOf "__init__" "InvalidVersion.__init__" (defArgs sIniV) (defBody sIniV) (defScope sIniV) .none kVIV dcIV pmIV anIV cdIV ctIV), slIV⟩)
    (ciV : PySem.W.codeIn K cdIV "InvalidVersion.__init__" = true)
    (kiV : PySem.W.keepIn K (.ref fIV) = true)
    {nmE qE : Str} {NE : Addr} {bsE : List Value} {snE : List Str} {subE : List Value} {abE : Bool} {colE : Option Bool} {ddE : Option Addr} {m0E m1E m2E m3E m5E : Option Value}
    {odIE anIE : Option Addr} {slIE : Array (Option Value)} {ocIE kVIE dcIE pmIE cdIE ctIE : Value}
    (aE : PySem.W.nsIn K mainGlobals "InvalidText" = some (some (.ref CE)))
    (xE : K.lookup CE = some (excClassObj nmE qE CE NE bsE [.ref CG, .type "ValueError", .type "Exception", .type "BaseException", .type "object"] true snE subE abE colE ddE m0E m1E m2E m3E m5E "ValueError.__new__"))
    (saE : PySem.W.findIn K (.ref CE) "__setattr__" = some (some (.builtin "object.__setattr__")))
    (exE : PySem.W.subIn K (.ref CE) (.type "BaseException") = some true)
    (tyE : PySem.W.typeIn K (.ref CE) = some (.type "type"))
    (kcE : PySem.W.keepIn K (.ref CE) = true)
    (gaE : PySem.W.findIn K (.ref CE) "__getattribute__" = some (some (.builtin "BaseException.__getattribute__")))
    (ggE : PySem.W.findIn K (.ref CE) "__getattr__" = some none)
    (hdE : PySem.W.hasDictIn K CE = true)
    (haE : PySem.W.findIn K (.ref CE) "__class__" = some (some (.builtin "object.__class__")))
    (hmE : PySem.W.mroIn K CE (.type "object") = some true)
    (noE : PySem.W.findIn K (.ref CE) "line" = some none)
    (inE : PySem.W.findIn K (.ref CE) "__init__" = some (some (.ref fIE)))
    (tiE : PySem.W.typeIn K (.ref fIE) = some (.type "function"))
    (liE : K.lookup fIE = some ⟨ocIE, odIE, .func (PySem.W.fnOf "__init__" "InvalidText.__init__" (defArgs sIniT) (defBody sIniT) (defScope sIniT) .none kVIE dcIE pmIE anIE cdIE ctIE), slIE⟩)
    (ciE : PySem.W.codeIn K cdIE "InvalidText.__init__" = true)
    (kiE : PySem.W.keepIn K (.ref fIE) = true)
    (hn : PySem.W.specialIn K (.builtin "object.__class__") "__get__" = some (some (.builtin "getset_descriptor.__get__")))
    (ht : PySem.W.takesIn K (.builtin "object.__class__") = some true)
    (sbWW : PySem.W.subIn K (.ref CW) (.ref CW) = some true)
    (sbSW : PySem.W.subIn K (.ref CS) (.ref CW) = some false)
    (sbSS : PySem.W.subIn K (.ref CS) (.ref CS) = some true)
    (sbVW : PySem.W.subIn K (.ref CV) (.ref CW) = some false)
    (sbVS : PySem.W.subIn K (.ref CV) (.ref CS) = some false)
    (sbVV : PySem.W.subIn K (.ref CV) (.ref CV) = some true)
    (sbEW : PySem.W.subIn K (.ref CE) (.ref CW) = some false)
    (sbES : PySem.W.subIn K (.ref CE) (.ref CS) = some false)
    (sbEV : PySem.W.subIn K (.ref CE) (.ref CV) = some false)
    (sbEE : PySem.W.subIn K (.ref CE) (.ref CE) = some true)
    (ne21_23 : tt21 ≠ tt23)
    (ne21_26 : tt21 ≠ tt26)
    (ne23_26 : tt23 ≠ tt26)
    (zlen : PySem.W.nsIn K mainGlobals "len" = some none)
    (zabs : PySem.W.nsIn K mainGlobals "abs" = some none)
    (zmax : PySem.W.nsIn K mainGlobals "max" = some none)
    (zdivmod : PySem.W.nsIn K mainGlobals "divmod" = some none)
    (zisi : PySem.W.nsIn K mainGlobals "isinstance" = some none)
    (ztuple : PySem.W.nsIn K mainGlobals "tuple" = some none)
    (zint : PySem.W.nsIn K mainGlobals "int" = some none)
    (zbool : PySem.W.nsIn K mainGlobals "bool" = some none)
    (zlist : PySem.W.nsIn K mainGlobals "list" = some none)
    (zrange : PySem.W.nsIn K mainGlobals "range" = some none)
    (zrepr : PySem.W.nsIn K mainGlobals "repr" = some none)
    (zstr : PySem.W.nsIn K mainGlobals "str" = some none)
    (zall : PySem.W.nsIn K mainGlobals "all" = some none)
    (zenumerate : PySem.W.nsIn K mainGlobals "enumerate" = some none)
    (zzip : PySem.W.nsIn K mainGlobals "zip" = some none)
    (zmin : PySem.W.nsIn K mainGlobals "min" = some none)
    : AtG l w K mg 10 63 "_law_script" fa ["_law_singles_right", "_law_lists_right", "_law_texts_right"] := by
  have e := hfa.symm.trans (PySem.W.mg_of X gl a27)
  cases e
  have T : Txt mg := ⟨PySem.W.mg_none_of X gl zlen, PySem.W.mg_none_of X gl zabs, PySem.W.mg_none_of X gl zmax, PySem.W.mg_none_of X gl zdivmod, PySem.W.mg_none_of X gl zisi, PySem.W.mg_none_of X gl ztuple, PySem.W.mg_none_of X gl zint, PySem.W.mg_none_of X gl zbool, PySem.W.mg_none_of X gl zlist, PySem.W.mg_none_of X gl zrange, PySem.W.mg_none_of X gl zrepr, PySem.W.mg_none_of X gl zstr, PySem.W.mg_none_of X gl zall, PySem.W.mg_none_of X gl zenumerate, PySem.W.mg_none_of X gl zzip, PySem.W.mg_none_of X gl zmin, ⟨_, PySem.W.mg_of X gl y1⟩⟩
  have gy1 := PySem.W.mg_of X gl y1
  have F1 := fun_mk (st := sIsVer) l1 c1 k1
  have b1 := F1.binds (ps := ["value"]) fun _ _ _ _ _ _ us hl => match us, hl with | [_], _ => rfl
  have g1 := PySem.W.mg_of X gl a1
  have F2 := fun_mk (st := sReqVer) l2 c2 k2
  have b2 := F2.binds (ps := ["value"]) fun _ _ _ _ _ _ us hl => match us, hl with | [_], _ => rfl
  have g2 := PySem.W.mg_of X gl a2
  have F3 := fun_mk (st := sVT) l3 c3 k3
  have b3 := F3.binds (ps := ["text"]) fun _ _ _ _ _ _ us hl => match us, hl with | [_], _ => rfl
  have g3 := PySem.W.mg_of X gl a3
  have F4 := fun_mk (st := sIsWin) l4 c4 k4
  have b4 := F4.binds (ps := ["value"]) fun _ _ _ _ _ _ us hl => match us, hl with | [_], _ => rfl
  have g4 := PySem.W.mg_of X gl a4
  have F5 := fun_mk (st := sReqWin) l5 c5 k5
  have b5 := F5.binds (ps := ["value"]) fun _ _ _ _ _ _ us hl => match us, hl with | [_], _ => rfl
  have g5 := PySem.W.mg_of X gl a5
  have F6 := fun_mk (st := sReqWins) l6 c6 k6
  have b6 := F6.binds (ps := ["value"]) fun _ _ _ _ _ _ us hl => match us, hl with | [_], _ => rfl
  have g6 := PySem.W.mg_of X gl a6
  have F7 := fun_mk (st := sReach) l7 c7 k7
  have b7 := F7.binds (ps := ["high", "version"]) fun _ _ _ _ _ _ us hl => match us, hl with | [_, _], _ => rfl
  have g7 := PySem.W.mg_of X gl a7
  have F8 := fun_mk (st := sCont) l8 c8 k8
  have b8 := F8.binds (ps := ["window", "version"]) fun _ _ _ _ _ _ us hl => match us, hl with | [_, _], _ => rfl
  have g8 := PySem.W.mg_of X gl a8
  have F9 := fun_mk (st := sRises) l9 c9 k9
  have b9 := F9.binds (ps := ["first", "second"]) fun _ _ _ _ _ _ us hl => match us, hl with | [_, _], _ => rfl
  have g9 := PySem.W.mg_of X gl a9
  have F10 := fun_mk (st := sFall) l10 c10 k10
  have b10 := F10.binds (ps := ["windows"]) fun _ _ _ _ _ _ us hl => match us, hl with | [_], _ => rfl
  have g10 := PySem.W.mg_of X gl a10
  have F11 := fun_mk (st := sLeast) l11 c11 k11
  have b11 := F11.binds (ps := ["windows", "version"]) fun _ _ _ _ _ _ us hl => match us, hl with | [_, _], _ => rfl
  have g11 := PySem.W.mg_of X gl a11
  have F12 := fun_mk (st := sFmt) l12 c12 k12
  have b12 := F12.binds (ps := ["window"]) fun _ _ _ _ _ _ us hl => match us, hl with | [_], _ => rfl
  have g12 := PySem.W.mg_of X gl a12
  have F13 := fun_mk (st := sParse) l13 c13 k13
  have b13 := F13.binds (ps := ["text"]) fun _ _ _ _ _ _ us hl => match us, hl with | [_], _ => rfl
  have g13 := PySem.W.mg_of X gl a13
  have F14 := fun_mk (st := sRng) l14 c14 k14
  have b14 := F14.binds (ps := ["_law_script", "_law_k"]) fun _ _ _ _ _ _ us hl => match us, hl with | [_, _], _ => rfl
  have g14 := PySem.W.mg_of X gl a14
  have F15 := fun_mk (st := sDraw) l15 c15 k15
  have b15 := F15.binds (ps := ["_law_rng_here", "_law_many"]) fun _ _ _ _ _ _ us hl => match us, hl with | [_, _], _ => rfl
  have g15 := PySem.W.mg_of X gl a15
  have F16 := fun_mk (st := sChoice) l16 c16 k16
  have b16 := F16.binds (ps := ["_law_rng_here", "_law_options"]) fun _ _ _ _ _ _ us hl => match us, hl with | [_, _], _ => rfl
  have g16 := PySem.W.mg_of X gl a16
  have F17 := fun_mk (st := sLIC) l17 c17 k17
  have b17 := F17.binds (ps := ["_law_one"]) fun _ _ _ _ _ _ us hl => match us, hl with | [_], _ => rfl
  have g17 := PySem.W.mg_of X gl a17
  have F18 := fun_mk (st := sLIW) l18 c18 k18
  have b18 := F18.binds (ps := ["_law_one"]) fun _ _ _ _ _ _ us hl => match us, hl with | [_], _ => rfl
  have g18 := PySem.W.mg_of X gl a18
  have F19 := fun_mk (st := sOdd) l19 c19 k19
  have b19 := F19.binds (ps := ["_law_rng_here"]) fun _ _ _ _ _ _ us hl => match us, hl with | [_], _ => rfl
  have g19 := PySem.W.mg_of X gl a19
  have F20 := fun_mk (st := sTold) l20 c20 k20
  have b20 := F20.binds (ps := ["_law_call"]) fun _ _ _ _ _ _ us hl => match us, hl with | [_], _ => rfl
  have g20 := PySem.W.mg_of X gl a20
  have F21 := fun_mk (st := sSingle) l21 c21 k21
  have b21 := F21.binds (ps := ["_law_rng_here"]) fun _ _ _ _ _ _ us hl => match us, hl with | [_], _ => rfl
  have g21 := PySem.W.mg_of X gl a21
  have F22 := fun_mk (st := sTop) l22 c22 k22
  have b22 := F22.binds (ps := ["_law_one"]) fun _ _ _ _ _ _ us hl => match us, hl with | [_], _ => rfl
  have g22 := PySem.W.mg_of X gl a22
  have F23 := fun_mk (st := sLists) l23 c23 k23
  have b23 := F23.binds (ps := ["_law_rng_here"]) fun _ _ _ _ _ _ us hl => match us, hl with | [_], _ => rfl
  have g23 := PySem.W.mg_of X gl a23
  have F24 := fun_mk (st := sNumb) l24 c24 k24
  have b24 := F24.binds (ps := ["_law_word"]) fun _ _ _ _ _ _ us hl => match us, hl with | [_], _ => rfl
  have g24 := PySem.W.mg_of X gl a24
  have F25 := fun_mk (st := sRead) l25 c25 k25
  have b25 := F25.binds (ps := ["_law_text"]) fun _ _ _ _ _ _ us hl => match us, hl with | [_], _ => rfl
  have g25 := PySem.W.mg_of X gl a25
  have F26 := fun_mk (st := sTexts) l26 c26 k26
  have b26 := F26.binds (ps := ["_law_rng_here"]) fun _ _ _ _ _ _ us hl => match us, hl with | [_], _ => rfl
  have g26 := PySem.W.mg_of X gl a26
  refine ⟨PySem.W.fnOf "law" "law" (defArgs sLaw) (defBody sLaw) (defScope sLaw) .none kV27 dc27 pm27 an27 cd27 ct27, [(cc21, tt21), (cc23, tt23), (cc26, tt26)], spLaw K [(tt21, N6.qS), (tt23, N6.qY), (tt26, N6.qX)], ?_, ?_, fun s v => .of_eq rfl, ?_, fun bs _ _ tB => ?_⟩
  · exact List.forall_mem_cons.2 ⟨⟨_, by simp, w21⟩, List.forall_mem_cons.2 ⟨⟨_, by simp, w23⟩, List.forall_mem_cons.2 ⟨⟨_, by simp, w26⟩, fun p hp => by cases hp⟩⟩⟩
  · exact List.forall_mem_cons.2 ⟨v21, List.forall_mem_cons.2 ⟨v23, List.forall_mem_cons.2 ⟨v26, fun p hp => by cases hp⟩⟩⟩
  · intro H a ns hl hT hS
    have n21 := hT (cc21, tt21) (by simp)
    have n23 := hT (cc23, tt23) (by simp)
    have n26 := hT (cc26, tt26) (by simp)
    exact ⟨a, ns, rfl, hS, hl, List.forall_mem_cons.2 ⟨TabS.nil n21, List.forall_mem_cons.2 ⟨TabS.nil n23, List.forall_mem_cons.2 ⟨TabS.nil n26, fun p hp => by cases hp⟩⟩⟩, fun _ => rfl⟩
  have tB21 := tB (cc21, tt21) (by simp)
  have tB23 := tB (cc23, tt23) (by simp)
  have tB26 := tB (cc26, tt26) (by simp)
  have FL := fun_mk (st := sLaw) l27 c27 k27
  have oeW : OexC K CW := ⟨⟨nmW, qW, NW, bsW, _, snW, subW, abW, colW, ddW, m0W, m1W, m2W, m3W, m5W, xW, rfl⟩, saW, exW, tyW, kcW⟩
  have FIW := fun_mk (st := sIniW) liW ciW kiW
  have bIW := FIW.binds (ps := ["self", "value"]) fun _ _ _ _ _ _ us hl => match us, hl with | [_, _], _ => rfl
  have XW : XCls l.prog w K mg bs "InvalidWindow" CW "value" "value" := ⟨oeW, ⟨gaW, ggW, exW, hdW⟩, ⟨gaW, ggW, exW, hdW, haW, hn, ht, hmW⟩, noW, PySem.W.mg_of X gl aW,
    fIW, _, inW, tiW, ok_ini FIW scIW oeW noW rfl rfl rfl (by decide) (by decide), bIW⟩
  have oeS : OexC K CS := ⟨⟨nmS, qS, NS, bsS, _, snS, subS, abS, colS, ddS, m0S, m1S, m2S, m3S, m5S, xS, rfl⟩, saS, exS, tyS, kcS⟩
  have FIS := fun_mk (st := sIniS) liS ciS kiS
  have bIS := FIS.binds (ps := ["self", "position"]) fun _ _ _ _ _ _ us hl => match us, hl with | [_, _], _ => rfl
  have XS : XCls l.prog w K mg bs "InvalidWindows" CS "position" "position" := ⟨oeS, ⟨gaS, ggS, exS, hdS⟩, ⟨gaS, ggS, exS, hdS, haS, hn, ht, hmS⟩, noS, PySem.W.mg_of X gl aS,
    fIS, _, inS, tiS, ok_ini FIS scIS oeS noS rfl rfl rfl (by decide) (by decide), bIS⟩
  have oeV : OexC K CV := ⟨⟨nmV, qV, NV, bsV, _, snV, subV, abV, colV, ddV, m0V, m1V, m2V, m3V, m5V, xV, rfl⟩, saV, exV, tyV, kcV⟩
  have FIV := fun_mk (st := sIniV) liV ciV kiV
  have bIV := FIV.binds (ps := ["self", "value"]) fun _ _ _ _ _ _ us hl => match us, hl with | [_, _], _ => rfl
  have XV : XCls l.prog w K mg bs "InvalidVersion" CV "value" "value" := ⟨oeV, ⟨gaV, ggV, exV, hdV⟩, ⟨gaV, ggV, exV, hdV, haV, hn, ht, hmV⟩, noV, PySem.W.mg_of X gl aV,
    fIV, _, inV, tiV, ok_ini FIV scIV oeV noV rfl rfl rfl (by decide) (by decide), bIV⟩
  have oeE : OexC K CE := ⟨⟨nmE, qE, NE, bsE, _, snE, subE, abE, colE, ddE, m0E, m1E, m2E, m3E, m5E, xE, rfl⟩, saE, exE, tyE, kcE⟩
  have FIE := fun_mk (st := sIniT) liE ciE kiE
  have bIE := FIE.binds (ps := ["self", "line"]) fun _ _ _ _ _ _ us hl => match us, hl with | [_, _], _ => rfl
  have XE : XCls l.prog w K mg bs "InvalidText" CE "line" "line" := ⟨oeE, ⟨gaE, ggE, exE, hdE⟩, ⟨gaE, ggE, exE, hdE, haE, hn, ht, hmE⟩, noE, PySem.W.mg_of X gl aE,
    fIE, _, inE, tiE, ok_ini FIE scIE oeE noE rfl rfl rfl (by decide) (by decide), bIE⟩
  have T2 : Fam K mg CG CW CS CV CE := ⟨PySem.W.mg_of X gl aG, PySem.W.exm_ref exW hdW tyW sbWW, PySem.W.exm_ref exW hdW tyW sbSW, PySem.W.exm_ref exS hdS tyS sbSS, PySem.W.exm_ref exW hdW tyW sbVW, PySem.W.exm_ref exS hdS tyS sbVS, PySem.W.exm_ref exV hdV tyV sbVV, PySem.W.exm_ref exW hdW tyW sbEW, PySem.W.exm_ref exS hdS tyS sbES, PySem.W.exm_ref exV hdV tyV sbEV, PySem.W.exm_ref exE hdE tyE sbEE⟩
  have O1 := ok_ver (P := l.prog) (w := w) (base := bs) F1 T
  have O2 := ok_reqV (P := l.prog) (w := w) (base := bs) F2 O1 F1.kp b1 g1 XV
  have O3 := ok_vt (P := l.prog) (w := w) (base := bs) F3 T
  have O4 := ok_win (P := l.prog) (w := w) (base := bs) F4 T F1 b1 g1
  have O5 := ok_reqX (P := l.prog) (w := w) (base := bs) F5 O4 F4.kp b4 g4 XW
  have O6 := ok_reqws (P := l.prog) (w := w) (base := bs) F6 T O4 F4.kp b4 g4 XS
  have O7 := ok_reach (P := l.prog) (w := w) (mg := mg) (base := bs) F7 
  have O8 := ok_cont (P := l.prog) (w := w) (base := bs) F8 O5 F5.kp b5 g5 O2 F2.kp b2 g2 O7 F7.kp b7 g7
  have O9 := ok_rises (P := l.prog) (w := w) (base := bs) F9 O5 F5.kp b5 g5 O7 F7.kp b7 g7
  have O10 := ok_fall (P := l.prog) (w := w) (base := bs) F10 T O6 F6.kp b6 g6 O9 F9.kp b9 g9
  have O11 := ok_least (P := l.prog) (w := w) (base := bs) F11 T O10 F10.kp b10 g10 O2 F2.kp b2 g2 O7 F7.kp b7 g7 XS
  have O12 := ok_fmt (P := l.prog) (w := w) (base := bs) F12 O5 F5.kp b5 g5
  have O13 := ok_parse (P := l.prog) (w := w) (base := bs) F13 T O3 F3.kp b3 g3 XE
  have O14 := ok_rng (P := l.prog) (w := w) (base := bs) F14 T
  have O15 := ok_draw (P := l.prog) (w := w) (base := bs) F15 T
  have O16 := ok_choice (P := l.prog) (w := w) (base := bs) F16 T F15 b15 g15
  have OS := ok_chS (P := l.prog) (w := w) (base := bs) F16 T F15 b15 g15
  have O17 := ok_liv (P := l.prog) (w := w) (base := bs) F17 T
  have O18 := ok_liw (P := l.prog) (w := w) (base := bs) F18 T O17 F17.kp b17 g17
  have O19 := ok_odd (P := l.prog) (w := w) (base := bs) F19 O16 F16.kp b16 g16
  have O22 := ok_top (P := l.prog) (w := w) (mg := mg) (base := bs) F22 
  have O24 := ok_numb (P := l.prog) (w := w) (base := bs) F24 T
  have O25 := ok_read (P := l.prog) (w := w) (base := bs) F25 O24 F24.kp b24 g24
  have O21 := ok_single (P := l.prog) (w := w) (base := bs) (tb := [(tt21, N6.qS), (tt23, N6.qY), (tt26, N6.qX)]) l21 c21 T T2 XW XS XV XE l20 c20 k20 g20 b20 tB21 (List.mem_cons_self) (List.forall_mem_cons.2 ⟨(fun _ => rfl), List.forall_mem_cons.2 ⟨(fun z => absurd z (ne21_23.symm)), List.forall_mem_cons.2 ⟨(fun z => absurd z (ne21_26.symm)), fun p hp => by cases hp⟩⟩⟩) O19 F19.kp b19 g19 O16 F16.kp b16 g16 O17 F17.kp b17 g17 O18 F18.kp b18 g18 O4 F4.kp b4 g4 (fun s ws h => match ws, h with | [_], _ => .of_eq rfl) O8 F8.kp b8 g8 O9 F9.kp b9 g9 O12 F12.kp b12 g12
  have O23 := ok_lists (P := l.prog) (w := w) (base := bs) (tb := [(tt21, N6.qS), (tt23, N6.qY), (tt26, N6.qX)]) l23 c23 T T2 XW XS XV XE l20 c20 k20 g20 b20 tB23 (List.mem_cons_of_mem _ List.mem_cons_self) (List.forall_mem_cons.2 ⟨(fun z => absurd z (ne21_23)), List.forall_mem_cons.2 ⟨(fun _ => rfl), List.forall_mem_cons.2 ⟨(fun z => absurd z (ne23_26.symm)), fun p hp => by cases hp⟩⟩⟩) O19 F19.kp b19 g19 O16 F16.kp b16 g16 O15 F15.kp b15 g15 O17 F17.kp b17 g17 O18 F18.kp b18 g18 O22 F22.kp b22 g22 O10 F10.kp b10 g10 O11 F11.kp b11 g11
  have O26 := ok_texts (P := l.prog) (w := w) (base := bs) (tb := [(tt21, N6.qS), (tt23, N6.qY), (tt26, N6.qX)]) l26 c26 T T2 XW XS XV XE l20 c20 k20 g20 b20 tB26 (List.mem_cons_of_mem _ (List.mem_cons_of_mem _ List.mem_cons_self)) (List.forall_mem_cons.2 ⟨(fun z => absurd z (ne21_26)), List.forall_mem_cons.2 ⟨(fun z => absurd z (ne23_26)), List.forall_mem_cons.2 ⟨(fun _ => rfl), fun p hp => by cases hp⟩⟩⟩) O16 F16.kp b16 g16 OS O15 F15.kp b15 g15 O12 F12.kp b12 g12 (fun s ws h => match ws, h with | [_], _ => .of_eq rfl) O13 F13.kp b13 g13 O25 F25.kp b25 g25
  exact ok_law FL T O14 F14.kp b14 g14 O21 k21 b21 g21 O23 k23 b23 g23 O26 k26 b26 g26
end N6

open PySem PySem.W PyProof.Rows in
set_option maxRecDepth 100000 in
set_option maxHeartbeats 0 in
theorem PySem.Challenge.cw_groupsteps_k16_wrong_windows_and_texts_holds : PySem.Challenge.rw_groupsteps_k16_wrong_windows_and_texts.Holds := by
  w_on; o_law; k_head; (case hw => w_witness2)
  k_fill
  refine G.walk_ofGT (l := PySem.Challenge.rw_groupsteps_k16_wrong_windows_and_texts) (n := 63) (k := 10) (x := "_law_script") (ms := ["_law_singles_right", "_law_lists_right", "_law_texts_right"]) rfl (by decide) rfl ⟨rfl, by decide, by decide⟩ ?R (fun w h Y => PySem.W.km_in_of Y) ?F
  case R =>
    intro m hm
    simp only [List.mem_cons, List.not_mem_nil, or_false] at hm
    rcases hm with rfl | rfl | rfl
    all_goals with_unfolding_all rfl
  case F =>
    intro w mg fa h KX gl hmg
    refine' N6.all_mk KX gl hmg ?a1 ?l1 ?c1 ?k1 ?a2 ?l2 ?c2 ?k2 ?a3 ?l3 ?c3 ?k3 ?a4 ?l4 ?c4 ?k4 ?a5 ?l5 ?c5 ?k5 ?a6 ?l6 ?c6 ?k6 ?a7 ?l7 ?c7 ?k7 ?a8 ?l8 ?c8 ?k8 ?a9 ?l9 ?c9 ?k9 ?a10 ?l10 ?c10 ?k10 ?a11 ?l11 ?c11 ?k11 ?a12 ?l12 ?c12 ?k12 ?a13 ?l13 ?c13 ?k13 ?a14 ?l14 ?c14 ?k14 ?a15 ?l15 ?c15 ?k15 ?a16 ?l16 ?c16 ?k16 ?a17 ?l17 ?c17 ?k17 ?a18 ?l18 ?c18 ?k18 ?a19 ?l19 ?c19 ?k19 ?a20 ?l20 ?c20 ?k20 ?a21 ?l21 ?c21 ?k21 ?a22 ?l22 ?c22 ?k22 ?a23 ?l23 ?c23 ?k23 ?a24 ?l24 ?c24 ?k24 ?a25 ?l25 ?c25 ?k25 ?a26 ?l26 ?c26 ?k26 ?a27 ?l27 ?c27 ?k27 ?w21 ?v21 ?w23 ?v23 ?w26 ?v26 ?y1 ?aG ?aW ?xW ?saW ?exW ?tyW ?kcW ?gaW ?ggW ?hdW ?haW ?hmW ?noW ?inW ?tiW ?liW ?ciW ?kiW ?aS ?xS ?saS ?exS ?tyS ?kcS ?gaS ?ggS ?hdS ?haS ?hmS ?noS ?inS ?tiS ?liS ?ciS ?kiS ?aV ?xV ?saV ?exV ?tyV ?kcV ?gaV ?ggV ?hdV ?haV ?hmV ?noV ?inV ?tiV ?liV ?ciV ?kiV ?aE ?xE ?saE ?exE ?tyE ?kcE ?gaE ?ggE ?hdE ?haE ?hmE ?noE ?inE ?tiE ?liE ?ciE ?kiE ?hn ?ht ?sbWW ?sbSW ?sbSS ?sbVW ?sbVS ?sbVV ?sbEW ?sbES ?sbEV ?sbEE ?ne21_23 ?ne21_26 ?ne23_26 ?zlen ?zabs ?zmax ?zdivmod ?zisi ?ztuple ?zint ?zbool ?zlist ?zrange ?zrepr ?zstr ?zall ?zenumerate ?zzip ?zmin
    (case a1 => k_is)
    (case l1 => k_is)
    (case c1 => k_is)
    (case k1 => k_is)
    (case a2 => k_is)
    (case l2 => k_is)
    (case c2 => k_is)
    (case k2 => k_is)
    (case a3 => k_is)
    (case l3 => k_is)
    (case c3 => k_is)
    (case k3 => k_is)
    (case a4 => k_is)
    (case l4 => k_is)
    (case c4 => k_is)
    (case k4 => k_is)
    (case a5 => k_is)
    (case l5 => k_is)
    (case c5 => k_is)
    (case k5 => k_is)
    (case a6 => k_is)
    (case l6 => k_is)
    (case c6 => k_is)
    (case k6 => k_is)
    (case a7 => k_is)
    (case l7 => k_is)
    (case c7 => k_is)
    (case k7 => k_is)
    (case a8 => k_is)
    (case l8 => k_is)
    (case c8 => k_is)
    (case k8 => k_is)
    (case a9 => k_is)
    (case l9 => k_is)
    (case c9 => k_is)
    (case k9 => k_is)
    (case a10 => k_is)
    (case l10 => k_is)
    (case c10 => k_is)
    (case k10 => k_is)
    (case a11 => k_is)
    (case l11 => k_is)
    (case c11 => k_is)
    (case k11 => k_is)
    (case a12 => k_is)
    (case l12 => k_is)
    (case c12 => k_is)
    (case k12 => k_is)
    (case a13 => k_is)
    (case l13 => k_is)
    (case c13 => k_is)
    (case k13 => k_is)
    (case a14 => k_is)
    (case l14 => k_is)
    (case c14 => k_is)
    (case k14 => k_is)
    (case a15 => k_is)
    (case l15 => k_is)
    (case c15 => k_is)
    (case k15 => k_is)
    (case a16 => k_is)
    (case l16 => k_is)
    (case c16 => k_is)
    (case k16 => k_is)
    (case a17 => k_is)
    (case l17 => k_is)
    (case c17 => k_is)
    (case k17 => k_is)
    (case a18 => k_is)
    (case l18 => k_is)
    (case c18 => k_is)
    (case k18 => k_is)
    (case a19 => k_is)
    (case l19 => k_is)
    (case c19 => k_is)
    (case k19 => k_is)
    (case a20 => k_is)
    (case l20 => k_is)
    (case c20 => k_is)
    (case k20 => k_is)
    (case a21 => k_is)
    (case l21 => k_is)
    (case c21 => k_is)
    (case k21 => k_is)
    (case a22 => k_is)
    (case l22 => k_is)
    (case c22 => k_is)
    (case k22 => k_is)
    (case a23 => k_is)
    (case l23 => k_is)
    (case c23 => k_is)
    (case k23 => k_is)
    (case a24 => k_is)
    (case l24 => k_is)
    (case c24 => k_is)
    (case k24 => k_is)
    (case a25 => k_is)
    (case l25 => k_is)
    (case c25 => k_is)
    (case k25 => k_is)
    (case a26 => k_is)
    (case l26 => k_is)
    (case c26 => k_is)
    (case k26 => k_is)
    (case a27 => k_is)
    (case l27 => k_is)
    (case c27 => k_is)
    (case k27 => k_is)
    (case w21 => first | rfl | k_is)
    (case v21 => first | rfl | k_is)
    (case w23 => first | rfl | k_is)
    (case v23 => first | rfl | k_is)
    (case w26 => first | rfl | k_is)
    (case v26 => first | rfl | k_is)
    (case y1 => k_is)
    (case aG => k_is)
    (case aW => k_is)
    (case xW => k_is)
    (case saW => k_is)
    (case exW => k_is)
    (case tyW => k_is)
    (case kcW => k_is)
    (case gaW => k_is)
    (case ggW => k_is)
    (case hdW => k_is)
    (case haW => k_is)
    (case hmW => k_is)
    (case noW => k_is)
    (case inW => k_is)
    (case tiW => k_is)
    (case liW => k_is)
    (case ciW => k_is)
    (case kiW => k_is)
    (case aS => k_is)
    (case xS => k_is)
    (case saS => k_is)
    (case exS => k_is)
    (case tyS => k_is)
    (case kcS => k_is)
    (case gaS => k_is)
    (case ggS => k_is)
    (case hdS => k_is)
    (case haS => k_is)
    (case hmS => k_is)
    (case noS => k_is)
    (case inS => k_is)
    (case tiS => k_is)
    (case liS => k_is)
    (case ciS => k_is)
    (case kiS => k_is)
    (case aV => k_is)
    (case xV => k_is)
    (case saV => k_is)
    (case exV => k_is)
    (case tyV => k_is)
    (case kcV => k_is)
    (case gaV => k_is)
    (case ggV => k_is)
    (case hdV => k_is)
    (case haV => k_is)
    (case hmV => k_is)
    (case noV => k_is)
    (case inV => k_is)
    (case tiV => k_is)
    (case liV => k_is)
    (case ciV => k_is)
    (case kiV => k_is)
    (case aE => k_is)
    (case xE => k_is)
    (case saE => k_is)
    (case exE => k_is)
    (case tyE => k_is)
    (case kcE => k_is)
    (case gaE => k_is)
    (case ggE => k_is)
    (case hdE => k_is)
    (case haE => k_is)
    (case hmE => k_is)
    (case noE => k_is)
    (case inE => k_is)
    (case tiE => k_is)
    (case liE => k_is)
    (case ciE => k_is)
    (case kiE => k_is)
    (case hn => k_is)
    (case ht => k_is)
    (case sbWW => first | rfl | k_is)
    (case sbSW => first | rfl | k_is)
    (case sbSS => first | rfl | k_is)
    (case sbVW => first | rfl | k_is)
    (case sbVS => first | rfl | k_is)
    (case sbVV => first | rfl | k_is)
    (case sbEW => first | rfl | k_is)
    (case sbES => first | rfl | k_is)
    (case sbEV => first | rfl | k_is)
    (case sbEE => first | rfl | k_is)
    (case ne21_23 => decide)
    (case ne21_26 => decide)
    (case ne23_26 => decide)
    (case zlen => k_is)
    (case zabs => k_is)
    (case zmax => k_is)
    (case zdivmod => k_is)
    (case zisi => k_is)
    (case ztuple => k_is)
    (case zint => k_is)
    (case zbool => k_is)
    (case zlist => k_is)
    (case zrange => k_is)
    (case zrepr => k_is)
    (case zstr => k_is)
    (case zall => k_is)
    (case zenumerate => k_is)
    (case zzip => k_is)
    (case zmin => k_is)

import PyProof.Rows.All
import Wide.All
import OpenK.AllK
import Wide.FinOn
import HandS.ForMost
import HandS.IsInst
import HandS.WideBits
import HandS.Wide
import HandS.Walk
import HandS.EndBits
import PyProof.ReprRoads
import PyProof.ReprLen
import HandS.Ends
import PySem.Challenge.RW_groupsteps_k11_names_and_versions
set_option Elab.async false
set_option maxRecDepth 100000
set_option linter.all false
/-! Calls whose surroundings hold no running repr: a promise that may use it (FnG), and repr of data. -/
namespace G
open PySem PySem.Spec PyProof.Rows L2

/-- a def keeps its promise wherever no repr is under way -/
structure FnG (P : Program) (w : World) (K : PySem.W.Frag) (mg : Str → Option Value) (bs : Heap)
    (CX : CXT) (k : Nat) (f : Addr) (fd : FuncData) (ps : List Str) (sp : Sp) : Prop where
  lenG : ∀ vs H Q E, sp vs H Q E → vs.length = ps.length
  runG : ∀ (A : Around) (ou : List Env) (st : Shared) (H : Hp) (ar : Args) (ys : List Value)
    (xs : List V) (Q : VK) (E : XK), A.guards = some [] → Room k A →
    Env0 P w K mg bs A ou st H → BindsTo st fd ar (ps.zip ys) → Vals xs ys → sp xs H Q E →
    codeAny (model P w) A (.call (.ref f) ar) (CR CX ou P w H st Q E) st

variable {P : Program} {w : World} {K : PySem.W.Frag} {mg : Str → Option Value} {bs : Heap}

theorem FnG.of {CX : CXT} {k : Nat} {f : Addr} {fd : FuncData} {ps : List Str} {sp : Sp}
    (F : FnOk P w K mg bs CX k f fd ps sp) : FnG P w K mg bs CX k f fd ps sp :=
  ⟨F.len, fun A ou st H ar ys xs Q E _ => F.run A ou st H ar ys xs Q E⟩
theorem FnG.mono {CX : CXT} {j k : Nat} {f : Addr} {fd : FuncData} {ps : List Str} {sp : Sp}
    (F : FnG P w K mg bs CX j f fd ps sp) (h : j ≤ k) : FnG P w K mg bs CX k f fd ps sp :=
  ⟨F.lenG, fun A ou st H ar ys xs Q E g r => F.runG A ou st H ar ys xs Q E g (r.mono h)⟩

/-- a def of the text, by its body, which may use that no repr is under way -/
theorem fn_ofG {CX : CXT} {k : Nat} {f : Addr} {nm ql : Str} {prm : Arguments} {bd : List Stmt}
    {sc : Scope} {dV kV dc pm cv ct oc : Value} {an od : Option Addr} {sl : Array (Option Value)}
    {N ps : List Str} {sp : Sp}
    (lk : K.lookup f = some ⟨oc, od, .func (PySem.W.fnOf nm ql prm bd sc dV kV dc pm an cv ct), sl⟩)
    (hc : PySem.W.codeIn K cv ql = true) (S : FnScope N ps sc)
    (ln : ∀ vs H Q E, sp vs H Q E → vs.length = ps.length)
    (hb : ∀ (A : Around) (ou : List Env) (st : Shared) (H : Hp) (xs : List V) (Q : VK) (E : XK),
      A.guards = some [] → Room k (A.deeper (envOfC ql sc st.heap.objs.size f cv)) → sp xs H Q E →
      ∃ t, PSs (cxOf CX P w K mg bs N ql sc f cv A ou st H E) bd t ∧
        t { nx := fun _ J => Q .non J, rt := Q } (start N xs) H) :
    FnG P w K mg bs CX (k + 1) f (PySem.W.fnOf nm ql prm bd sc dV kV dc pm an cv ct) ps sp := by
  refine ⟨ln, fun A ou st H ar ys xs Q E gd rm ev bt vl pr => ?_⟩
  have len := ln xs H Q E pr
  have old : ∀ b o, bs.get? b = some o → st.heap.get? b = some o := fun b o z => (ev.bs b o z).1
  have inK : K.In st.heap := ev.mod.kin.keeps old
  have nl : st.heap.NoLimit := ev.mod.nolimit.keeps old
  have knd : ∀ y ∈ ps.zip ys, sc.names.lookup y.1 = some .local ∨
      (sc.names.lookup y.1 = some .cell ∧
        ((cellsFrom (st.heap.objs.size + 1) sc.names []).lookup y.1).isSome = true) := by
    rintro ⟨n, v⟩ hy
    rcases S.par n (List.of_mem_zip hy).1 with z | z
    · exact .inl z
    · exact .inr ⟨z, PySem.W.cellsFrom_some _ _ _ (.inl z)⟩
  refine codeAny_call_function rm.depth (inK _ _ lk) rfl S.co S.gen rfl
    (PySem.W.codeRec_of inK hc) (bt _ _ _ _ ?_)
  refine wpAny_newFunctionEnv_cells S.kind knd fun en hen st1 ic => ?_
  subst hen
  refine ⟨nl.keeps ic.toInCall.keep, codeAny_func ?_⟩
  obtain ⟨t, pt, rd⟩ := hb A ou st H xs Q E gd (rm.deeper _) pr
  have J : Inv (cxOf CX P w K mg bs N ql sc f cv A ou st H E) [] (start N xs) H st1 :=
    inv_start S rm.hd ev len vl ic
  refine wpAny_mono (pt.run [] st1 (start N xs) H _ J rd) (fun fl st2 z => ?_) fun _ _ z => z
  cases fl with
  | ret u =>
    obtain ⟨v, σ2, H2, J2, rv, q⟩ := z
    exact ⟨v, H2, J2.os, J2.bare, J2.base, J2.hok, rv, q⟩
  | next =>
    obtain ⟨σ2, H2, J2, q⟩ := z
    exact ⟨V.non, H2, J2.os, J2.bare, J2.base, J2.hok, rfl, q⟩
  | brk =>
    obtain ⟨_, _, _, q⟩ := z
    exact q.elim
  | cont =>
    obtain ⟨_, _, _, q⟩ := z
    exact q.elim

theorem okG {x ql : Str} {st : Stmt} {f : Addr} {fd : FuncData} {N ps : List Str} {k : Nat} {sp : Sp}
    (F : Fun K x ql st f fd) (S : FnScope N ps (defScope st))
    (ln : ∀ vs H Q E, sp vs H Q E → vs.length = ps.length)
    (hb : ∀ (cv : Value) (A : Around) (ou : List Env) (s : Shared) (H : Hp) (vs : List V) (Q : VK)
      (E : XK), A.guards = some [] →
      Room k (A.deeper (envOfC ql (defScope st) s.heap.objs.size f cv)) → sp vs H Q E →
      ∃ t, PSs (cxOf CX0 P w K mg bs N ql (defScope st) f cv A ou s H E).nox (defBody st) t ∧
        t { nx := fun _ J => Q .non J, rt := Q } (start N vs) H) :
    FnG P w K mg bs CX0 (k + 1) f fd ps sp := by
  obtain ⟨oc, od, kV, doc, pm, an, cdv, ct, osl, rfl, lk, hcd⟩ := F.ex
  refine fn_ofG lk hcd S ln fun A ou s H vs Q E gd rm pr => ?_
  obtain ⟨t, p, rd⟩ := hb cdv A ou s H vs Q E gd rm pr
  exact ⟨t, p.nox, rd⟩

section
variable {X : Cx} {CX : CXT} {k : Nat} {f : Addr} {fd : FuncData} {ps : List Str} {sp : Sp}
  {dvs : List V} {ds : List Value} {E : XK} {x : Str} {p pos : Pos} {e : Expr} {es : List Expr} {t : TA}
/-- f(..) of such a def -/
theorem pe_callG (F : FnG X.prog X.w X.K X.mg X.base CX k f fd ps sp) (gd : X.A.guards = some [])
    (rm : Room k X.A) (hg : Gl X x) (hm : X.mg x = some (.ref f))
    (hk : PySem.W.keepIn X.K (.ref f) = true) (hb : Binds X.K fd ps ds) (hd : Vals dvs ds)
    (hx : Passes CX X E) (ha : PA X (e :: es) t)
    (n1 : (x == ("__debug__" : Str)) = false := by decide)
    (n2 : starEach (e :: es) X.env = (false, eval e X.env) :: starEach es X.env := by rfl)
    (n3 : (backTo pos (starEach es X.env)).any (·.1) = false := by rfl) :
    PE X (.Call (.Name x p) (e :: es) [] pos) (tCall sp dvs E t) := by
  refine ⟨fun pins s σ H Q J hw => ?_⟩
  refine wpAny_Call_Name_kw (ld_glob J hg hm ?_ n1)
  refine PySem.W.callWith_K (h₀ := X.base) J.ok.mod.kin hk (thn (ha.run pos pins s σ H _ J hw)
    fun ys s1 ⟨xs, H1, J1, r1, q1⟩ => ⟨J1.kIn, ?_⟩) n2 n3
  have r2 : Vals (xs ++ dvs) (ys ++ ds) := r1.append hd
  have hl : (ys ++ ds).length = ps.length := by
    rw [← r2.length]
    exact F.lenG _ _ _ _ q1
  refine wpAny_call (codeAny_mono (F.runG X.A X.stack s1 H1 ⟨ys, []⟩ (ys ++ ds) (xs ++ dvs) Q E
    gd rm J1.env0 (hb s1 ys J1.kIn hl) r2 q1) fun r s2 z => ?_)
  cases r with
  | error er => exact hx pins σ H1 s1 er s2 J1 z
  | ok fl =>
    cases fl with
    | ret u => exact J1.after z
    | next => exact z.elim
    | brk => exact z.elim
    | cont => exact z.elim
end

section
variable {X : Cx}
/-- what repr gives of a value: its data, and whether it can be shown -/
def rRepr (K : PySem.W.Frag) : List V → Hp → VK → Prop := fun xs H Q =>
  ∃ (v : V) (d : PyData), xs = [v] ∧ Dp K H v d ∧ d.showable = true ∧ d.hasDict = false ∧
    d.depth ≤ 60 ∧ d.shown.length ≤ sizeLine ∧ Q (.str d.shown) H
theorem call_reprD (gd : X.A.guards = some []) (hu : X.A.units + 64 < cLine) :
    CallR X (.builtin "repr") (rRepr X.K) := by
  intro pins s σ H xs us Q I r h
  obtain ⟨v, d, rfl, hd, hs, hn, hp, hz, q⟩ := h
  obtain ⟨u, rfl, rv⟩ := vals1 r
  obtain ⟨as, R⟩ := Dp.reads I d v u hd rv
  cases R with
  | none => exact PySem.P.repr_of_none ⟨.str _, H, I.tok _, ⟨_, rfl⟩, q⟩
  | bool b => exact PySem.P.repr_of_bool ⟨.str _, H, I.tok _, ⟨_, rfl⟩, q⟩
  | int i t =>
    have hi : i.natAbs.log2 < 1920 := by simpa [PyData.showable] using hs
    exact PySem.P.repr_of_int hi ⟨.str _, H, I.tok _, ⟨_, rfl⟩, q⟩
  | str y t => exact PySem.P.repr_of_str ⟨.str _, H, I.tok _, ⟨_, rfl⟩, q⟩ hz
  | list h1 h2 h3 h4 =>
    exact repr_of_reads' (.list h1 h2 h3 h4) hs (PyData.noDict_hsm hn) gd (by omega)
      (fun _ _ e => e) (fun h' u tk k => ⟨.str _, H, I.kept k, ⟨_, rfl⟩, q⟩) hz
  | tuple h1 h2 h3 h4 =>
    exact repr_of_reads' (.tuple h1 h2 h3 h4) hs (PyData.noDict_hsm hn) gd (by omega)
      (fun _ _ e => e) (fun h' u tk k => ⟨.str _, H, I.kept k, ⟨_, rfl⟩, q⟩) hz
  | dict h1 h2 h3 h4 h5 => simp [PyData.hasDict] at hn
end
end G
/-! Data in the heap: none, bools, ints, texts, lists, tuples, dicts; their repr. -/
namespace G
open PySem PySem.Spec PyProof.Rows L2

def kD : Key → PyData
  | .inl i => .int i
  | .inr x => .str x
mutual
inductive Da (H : Hp) : V → PyData → Prop
  | non : Da H .non .none
  | bl (b : Bool) : Da H (.bl b) (.bool b)
  | int (i : Int) : Da H (.int i) (.int i)
  | str (x : Str) : Da H (.str x) (.str x)
  | lst {a : Addr} {xs : List V} {ds : List PyData} : a ≠ sysModules → H a = some (.lst xs) →
      DaAll H xs ds → Da H (.ref a) (.list ds)
  | tup {a : Addr} {xs : List V} {ds : List PyData} : H a = some (.tup xs) →
      DaAll H xs ds → Da H (.ref a) (.tuple ds)
  | dic {a : Addr} {kvs : List (Key × V)} {ds : List PyData} : H a = some (.dK kvs) →
      DaAll H (kvs.map (·.2)) ds → Da H (.ref a) (.dict ((kvs.map fun p => kD p.1).zip ds))
inductive DaAll (H : Hp) : List V → List PyData → Prop
  | nil : DaAll H [] []
  | cons {v : V} {vs : List V} {d : PyData} {ds : List PyData} : Da H v d → DaAll H vs ds →
      DaAll H (v :: vs) (d :: ds)
end
mutual
theorem Da.mono {H H' : Hp} (e : Same H H') {v : V} {d : PyData} : Da H v d → Da H' v d
  | .non => .non
  | .bl b => .bl b
  | .int i => .int i
  | .str x => .str x
  | .lst n h t => .lst n (e _ _ h) (DaAll.mono e t)
  | .tup h t => .tup (e _ _ h) (DaAll.mono e t)
  | .dic h t => .dic (e _ _ h) (DaAll.mono e t)
theorem DaAll.mono {H H' : Hp} (e : Same H H') {vs : List V} {ds : List PyData} :
    DaAll H vs ds → DaAll H' vs ds
  | .nil => .nil
  | .cons h t => .cons (Da.mono e h) (DaAll.mono e t)
end
theorem DaAll.len {H : Hp} : ∀ {vs : List V} {ds : List PyData}, DaAll H vs ds → vs.length = ds.length
  | _, _, .nil => rfl
  | _, _, .cons _ t => by simp [DaAll.len t]

theorem pairs_reads {P : Program} {w : World} {h : Heap} : ∀ {es : List DictEntry} {kvs : List (Key × V)}
    {vs : List (Key × Value)}, Pairs (mixKind P w) es vs → KV kvs vs →
    ReadsAll h (es.map (·.key)) (kvs.map fun p => kD p.1) [] ∧ Vals (kvs.map (·.2)) (es.map (·.val))
  | _, _, _, .nil, r => by cases r; exact ⟨.nil, .nil⟩
  | _, _, _, .cons (e := e) k1 k2 t, r => by
    cases r with
    | cons r1 r2 =>
      obtain ⟨q1, q2⟩ := pairs_reads (h := h) t r2
      obtain ⟨e1, e2⟩ := r1
      refine ⟨?_, .cons (show L2.RelV _ e.val by rw [k2]; exact e2) q2⟩
      rw [← e1] at k1
      have sh := keyIs_shape (show keyIs _ e.key = true from k1)
      simp only [List.map_cons]
      rcases sh with ⟨i, tk, z1, z2⟩ | ⟨x, tk, z1, z2⟩
      · rw [z1, z2]
        exact ReadsAll.cons (as := []) (bs := []) (.int i tk) q1
      · rw [z1, z2]
        exact ReadsAll.cons (as := []) (bs := []) (.str x tk) q1

section
variable {X : Cx} {pins : List (Addr × Obj)} {σ : L2.St} {H : Hp} {s : Shared}
mutual
theorem Da.reads (I : Inv X pins σ H s) {v : V} {d : PyData} {u : Value} :
    Da H v d → RelV v u → ∃ as, Reads s.heap u d as ∧ sysModules ∉ as
  | .non, r => by
    obtain rfl : u = Value.none := r
    exact ⟨_, .none, by simp⟩
  | .bl b, r => by
    obtain rfl : u = Value.bool b := r
    exact ⟨_, .bool b, by simp⟩
  | .int i, r => by
    obtain ⟨t, rfl⟩ := r
    exact ⟨_, .int i t, by simp⟩
  | .str x, r => by
    obtain ⟨t, rfl⟩ := r
    exact ⟨_, .str x t, by simp⟩
  | .lst (a := a) (xs := xs) n h t, r => by
    obtain rfl : u = Value.ref a := r
    obtain ⟨_, its, m, rv, ho⟩ := (show ObjOk X.prog X.w H s.heap a (.lst xs) from I.hok a _ h)
    obtain ⟨as, q, z⟩ := DaAll.reads I t rv
    refine ⟨_, .list (vs := its.toArray) ho rfl rfl (by simpa using q), ?_⟩
    intro hm
    rcases List.mem_cons.mp hm with e | e
    · exact n e.symm
    · exact z e
  | .tup (a := a) (xs := xs) h t, r => by
    obtain rfl : u = Value.ref a := r
    obtain ⟨_, its, rv, o, ho, hc, m, hd⟩ := (show ObjOk X.prog X.w H s.heap a (.tup xs) from I.hok a _ h)
    obtain ⟨as, q, z⟩ := DaAll.reads I t rv
    exact ⟨_, .tuple (vs := its.toArray) ho hc hd (by simpa using q), z⟩
  | .dic (a := a) (kvs := kvs) (ds := ds) h t, r => by
    obtain rfl : u = Value.ref a := r
    obtain ⟨_, ns, vs, kv, o, es, ep, ho, ex, hd, _, pr, _⟩ :=
      (show ObjOk X.prog X.w H s.heap a (.dK kvs) from I.hok a _ h)
    obtain ⟨q1, q2⟩ := pairs_reads (h := s.heap) pr kv
    obtain ⟨as, q3, z⟩ := DaAll.reads I t q2
    have hl := t.len
    have hl2 : (kvs.map fun p => kD p.1).length = ds.length := by simpa using hl
    have e1 : ((kvs.map fun p => kD p.1).zip ds).map (·.1) = kvs.map fun p => kD p.1 :=
      List.map_fst_zip (by omega)
    have e2 : ((kvs.map fun p => kD p.1).zip ds).map (·.2) = ds := List.map_snd_zip (by omega)
    refine ⟨_, .dict ho ex.1 hd (by rw [e1]; exact q1) (by rw [e2]; exact q3), ?_⟩
    intro hm
    rcases List.mem_cons.mp (show sysModules ∈ a :: ([] ++ as) by simpa using hm) with e | e
    · rw [← e] at ns
      simp at ns
    · exact z (by simpa using e)
theorem DaAll.reads (I : Inv X pins σ H s) {vs : List V} {ds : List PyData} {us : List Value} :
    DaAll H vs ds → Vals vs us → ∃ as, ReadsAll s.heap us ds as ∧ sysModules ∉ as
  | .nil, r => by
    cases r
    exact ⟨_, .nil, by simp⟩
  | .cons h t, r => by
    cases r with
    | cons r1 r2 =>
      obtain ⟨as, q1, z1⟩ := Da.reads I h r1
      obtain ⟨bs, q2, z2⟩ := DaAll.reads I t r2
      exact ⟨_, .cons q1 q2, by simp [z1, z2]⟩
end
end

/-- data that can be shown, and not too long -/
def OkD (d : PyData) : Prop :=
  d.showable = true ∧ d.leavesShort 600 = true ∧ d.weight ≤ 20000 ∧ d.depth ≤ 60
theorem OkD.size {d : PyData} (h : OkD d) : d.shown.length ≤ sizeLine := by
  have q := PyData.shown_le 600 (by decide) d h.2.1
  have e := h.2.2.1
  have e2 : (600 + 2) * d.weight ≤ 602 * 20000 := Nat.mul_le_mul (by decide) e
  rw [sizeLine_eq]
  omega

section
variable {X : Cx}
def rRep : List V → Hp → VK → Prop := fun xs H Q =>
  ∃ (v : V) (d : PyData), xs = [v] ∧ Da H v d ∧ OkD d ∧ Q (.str d.shown) H
theorem call_rep (gd : X.A.guards = some []) (hu : X.A.units + 64 < cLine) :
    CallR X (.builtin "repr") rRep := by
  intro pins s σ H xs us Q I r h
  obtain ⟨v, d, rfl, hd, ok, q⟩ := h
  obtain ⟨u, rfl, rv⟩ := vals1 r
  obtain ⟨as, R, nm⟩ := hd.reads I rv
  have hz := ok.size
  have hp := ok.2.2.2
  have hs := ok.1
  cases R with
  | none => exact PySem.P.repr_of_none ⟨.str _, H, I.tok _, ⟨_, rfl⟩, q⟩
  | bool b => exact PySem.P.repr_of_bool ⟨.str _, H, I.tok _, ⟨_, rfl⟩, q⟩
  | int i t =>
    have hi : i.natAbs.log2 < 1920 := by simpa [PyData.showable] using hs
    exact PySem.P.repr_of_int hi ⟨.str _, H, I.tok _, ⟨_, rfl⟩, q⟩
  | str y t => exact PySem.P.repr_of_str ⟨.str _, H, I.tok _, ⟨_, rfl⟩, q⟩ hz
  | list h1 h2 h3 h4 =>
    exact repr_of_reads' (.list h1 h2 h3 h4) hs (fun _ => nm) gd (by omega)
      (fun _ _ e => e) (fun h' u tk k => ⟨.str _, H, I.kept k, ⟨_, rfl⟩, q⟩) hz
  | tuple h1 h2 h3 h4 =>
    exact repr_of_reads' (.tuple h1 h2 h3 h4) hs (fun _ => nm) gd (by omega)
      (fun _ _ e => e) (fun h' u tk k => ⟨.str _, H, I.kept k, ⟨_, rfl⟩, q⟩) hz
  | dict h1 h2 h3 h4 h5 =>
    exact repr_of_reads' (.dict h1 h2 h3 h4 h5) hs (fun _ => nm) gd (by omega)
      (fun _ _ e => e) (fun h' u tk k => ⟨.str _, H, I.kept k, ⟨_, rfl⟩, q⟩) hz

/-- a list display, its place not that of sys.modules -/
def tLstS (t : TA) : TE := fun σ H Q => t σ H fun xs H1 => xs.length ≤ sizeLine ∧
  ∀ p, H1 p = none → p ≠ sysModules → Q (.ref p) (upd H1 p (.lst xs))
theorem pe_lstS {es : List Expr} {t : TA} {pos : Pos} (h : PA X es t) : PE X (.List es pos) (tLstS t) := by
  refine ⟨fun pins s σ H Q I hq => ?_⟩
  refine wpAny_List_spliced (thn (h.run pos pins s σ H _ I hq) fun us s1 ⟨xs, H1, I1, r, z, q⟩ =>
    ⟨by rw [← r.length]; exact z, ?_⟩)
  have fr : H1 s1.heap.objs.size = none := I1.hok.fresh (Nat.le_refl _)
  refine ⟨.ref s1.heap.objs.size, upd H1 s1.heap.objs.size (.lst xs), I1.laid (t' := s1.toks)
    (fun b u e => Heap.get?_push_of_some _ e) (Nat.le_refl _) ?_, rfl, q _ fr (Nat.ne_of_gt I1.big)⟩
  exact ⟨z, us, 0, r, Heap.get?_push_size _ rfl⟩

/-- isinstance(x, T) for data and a built-in T -/
def tyD : PyData → String
  | .none => "NoneType"
  | .bool _ => "bool"
  | .int _ => "int"
  | .str _ => "str"
  | .list _ => "list"
  | .tuple _ => "tuple"
  | .dict _ => "dict"
theorem Da.ty {K : PySem.W.Frag} {H : Hp} {v : V} {d : PyData} (h : Da H v d) :
    TyX K H v (.type (tyD d)) := by
  cases h with
  | non => exact .base .non
  | bl b => exact .base (.bl b)
  | int i => exact .base (.int i)
  | str x => exact .base (.str x)
  | lst n h t => exact .base (.lst h)
  | tup h t => exact .base (.tup h)
  | dic h t => exact .base (.dK h)
end

/-- the heap without what stands at r -/
def hide (r : Addr) (H : Hp) : Hp := fun q => if q = r then none else H q
theorem hide_same (r : Addr) (H : Hp) : Same (hide r H) H := fun b o e => by
  unfold hide at e
  split at e
  · cases e
  · exact e
theorem hide_get {r b : Addr} {H : Hp} {o : HO} (n : b ≠ r) (h : H b = some o) : hide r H b = some o := by
  unfold hide
  rw [if_neg n]
  exact h
end G
/-! The end of a row from a law's promise that may use that no repr is under way. -/
namespace G
open PySem PySem.Spec PyProof.Rows L2

theorem law_callG {P : Program} {w : World} {K : PySem.W.Frag} {mg mb : Str → Option Value} {k : Nat}
    {f a : Addr} {fd : FuncData} {x : Str} {sp : Sp} {st : Shared} {us : List Value} {ns : List Int}
    (inK : K.In st.heap) (hg : st.heap.Ns mainGlobals mg) (hb : st.heap.Ns builtinsNs mb)
    (bb : ∀ y : Str, y ≠ "__name__" → mb y = bootBuiltins y) (nl : st.heap.NoLimit)
    (gn : st.gens = #[])
    (ho : st.heap.get? a = some { cls := .type "list", data := .seq us.toArray }) (hi : IntsAre us ns)
    (hl : ns.length ≤ sizeLine) (rm : Room k callerA)
    (F : ∀ bs : Heap, K.In bs → bs.Ns mainGlobals mg → FnG P w K mg bs CX0 k f fd [x] sp)
    (bind : ∀ (s : Shared) (u : Value), BindsTo s fd ⟨[u], []⟩ [(x, u)])
    (hsp : ∀ H : Hp, Only H → SqL K H a (ns.map V.int) →
      sp [.ref a] H (fun v _ => v = .bl true) fun _ _ _ => False) :
    codeAny (model P w) callerA (.call (.ref f) ⟨[.ref a], []⟩)
      (fun r s' => r = .ok (.ret (.bool true)) ∧ OldK st.heap s'.heap ∧ s'.os = st.os ∧
        AllBare s'.gens) st := by
  have vls := vals_ints hi
  have len := hi.length
  have main : ∀ H : Hp, Only H → SqL K H a (ns.map V.int) → HOk P w H st.heap →
      (∀ b, H b ≠ none → b = a) → (H a ≠ none → K.lookup a = none) →
      codeAny (model P w) callerA (.call (.ref f) ⟨[.ref a], []⟩)
        (fun r s' => r = .ok (.ret (.bool true)) ∧ OldK st.heap s'.heap ∧ s'.os = st.os ∧
          AllBare s'.gens) st := by
    intro H only sq hok at_a noK
    have dict_free : ∀ {b : Addr} {o : Obj} {es : Array DictEntry} {ep : Nat},
        st.heap.get? b = some o → o.data = .dict es ep → H b = none := by
      intro b o es ep e d
      cases q : H b with
      | none => rfl
      | some z =>
        have e2 : b = a := at_a b (by rw [q]; simp)
        rw [e2, ho] at e
        cases e
        cases (show Data.seq us.toArray _ = Data.dict es ep from d)
    have keepN : ∀ {b : Addr} {m : Str → Option Value}, st.heap.Ns b m →
        (hidT st.heap H).Ns b m := by
      rintro b m ⟨o, es, ep, e, d, r⟩
      exact ⟨o, es, ep, hidT_get e (dict_free e d), d, r⟩
    have inB : K.In (hidT st.heap H) := by
      intro b o e
      refine hidT_get (inK b o e) ?_
      cases q : H b with
      | none => rfl
      | some z =>
        have e2 : b = a := at_a b (by rw [q]; simp)
        subst e2
        rw [noK (by rw [q]; simp)] at e
        cases e
    obtain ⟨mc, n1, n2⟩ := nl
    have md : Mod K mg (hidT st.heap H) := ⟨inB, keepN hg, ⟨mb, keepN hb, bb⟩, mc, keepN n1, n2⟩
    have ev : Env0 P w K mg (hidT st.heap H) callerA [] st H :=
      ⟨rfl, md, fun b o e => of_hidT e, Nat.le_of_eq (hidT_size _ _), trivial,
        fun b z => (by simp [frs] at z), hok, .of_eq gn⟩
    refine codeAny_mono ((F _ inB (keepN hg)).runG callerA [] st H ⟨[.ref a], []⟩ [.ref a] [.ref a]
      _ _ rfl rm ev (bind st (.ref a)) (.cons rfl .nil) (hsp H only sq)) fun r s2 z => ?_
    cases r with
    | error e => exact z.elim
    | ok fl =>
      cases fl with
      | next => exact z.elim
      | brk => exact z.elim
      | cont => exact z.elim
      | ret u =>
        obtain ⟨v, H2, os, bare, un, hok2, rv, q⟩ := z
        have qv : v = .bl true := q
        subst qv
        obtain rfl : u = Value.bool true := rv
        refine ⟨rfl, OldK.of_keep fun b o e => ?_, os, bare⟩
        cases q2 : H b with
        | none => exact un.keep b o e q2 (fun z => by simp [frs] at z) (by simp)
        | some z =>
          rcases only b with y | ⟨ob, xs, y⟩
          · rw [q2] at y
            cases y
          · obtain ⟨m1, _⟩ := hok b _ y
            obtain ⟨m2, _⟩ := hok2 b _ (un.frzs b ob _ y)
            rw [e] at m1
            cases m1
            exact m2
  cases hk : K.lookup a with
  | some o =>
    have e := inK a o hk
    rw [ho] at e
    cases e
    refine main (fun _ => none) (fun _ => .inl rfl) (.inr ⟨_, us.toArray, _, hk, rfl, rfl, rfl, ?_, ?_⟩)
      (fun b u z => nomatch (show (none : Option HO) = some u from z)) (fun b z => absurd rfl z)
      fun z => absurd rfl z
    · rw [List.size_toArray, len]
      exact hl
    · simpa using vls
  | none =>
    refine main (fun b => if b = a then some (.frz { cls := .type "list", data := .seq us.toArray }
      (.lst (ns.map V.int))) else none) (fun b => ?_) (.inl (.inr ⟨_, if_pos rfl⟩)) (fun b u z => ?_)
      (fun b z => ?_) fun _ => hk
    · by_cases e : b = a
      · exact .inr ⟨_, _, if_pos e⟩
      · exact .inl (if_neg e)
    · by_cases e : b = a
      · have z2 := (if_pos e).symm.trans z
        cases z2
        subst e
        exact ⟨ho, by rw [List.length_map]; exact hl, us, _, vls, ho⟩
      · have z2 := (if_neg e).symm.trans z
        cases z2
    · by_cases e : b = a
      · exact e
      · exact absurd (if_neg e) z

/-- the goal that the head leaves -/
theorem walk_ofG {l : PySem.W.OpenLaw} {n k : Nat} {q : Program} {loose : List Str}
    {XP : (Str → Option Value) → Heap → Prop} {YP : World → Heap → Prop} {d : DefRec}
    {K : Params → PySem.W.Frag} {sp : World → Sp} {x : Str} (hn : l.most = some n) (n2 : n ≤ sizeLine)
    (hd : d.params.defaults = []) (rm : Room k callerA)
    (hY : ∀ (w : World) (h : Heap), YP w h → (K w.params).In h)
    (F : ∀ (w : World) (mg : Str → Option Value) (fa : Addr) (h : Heap), (K w.params).In h →
      h.Ns mainGlobals mg → mg d.name = some (.ref fa) →
      ∃ fd : FuncData, (∀ (s : Shared) (u : Value), BindsTo s fd ⟨[u], []⟩ [(x, u)]) ∧
        ∀ bs : Heap, (K w.params).In bs → bs.Ns mainGlobals mg →
          FnG l.prog w (K w.params) mg bs CX0 k fa fd [x] (sp w))
    (hsp : ∀ (w : World) (H : Hp) (a : Addr) (ns : List Int), ns.length ≤ n → Only H →
      SqL (K w.params) H a (ns.map V.int) →
      sp w [.ref a] H (fun v _ => v = .bl true) fun _ _ _ => False) :
    PySem.W.WalkO q loose XP YP l.row.toRowW d [] (fun f vs => PySem.call f vs) := by
  refine Att.attach_call hn hd
    fun w s0 s1 mg mb fa o pm cd doc a us ns Gr Y _ _ _ hmg hobj hints hlen gn => ?_
  have inK := hY w _ Y
  obtain ⟨fd, hb, hF⟩ := F w mg fa _ inK Gr.T.g hmg
  exact law_callG inK Gr.T.g Gr.T.b Gr.T.builtins Gr.T.nolimit gn hobj hints
    (Nat.le_trans hlen n2) rm hF hb fun H hO hS => hsp w H a ns hlen hO hS
end G
namespace N1
open PySem L2 G
def tp (i : Nat) : Stmt :=
  PySem.Challenge.pw_groupsteps_k11_names_and_versions.main.body.getD i (.Pass ⟨0, 0, 0, 0⟩)
abbrev sIsName : Stmt := tp 3
abbrev sIsVer : Stmt := tp 4
abbrev sRng : Stmt := tp 6
abbrev sDraw : Stmt := tp 7
abbrev sChoice : Stmt := tp 8
abbrev sLName : Stmt := tp 9
abbrev sLVer : Stmt := tp 10
abbrev sText : Stmt := tp 11
abbrev sNumber : Stmt := tp 12
abbrev sOdd : Stmt := tp 13
abbrev sRight : Stmt := tp 14
abbrev sLaw : Stmt := tp 15

/-- what the top has left: the built-ins untouched, the two constants -/
structure Txt (mg : Str → Option Value) : Prop where
  len : mg "len" = none
  abs : mg "abs" = none
  max : mg "max" = none
  min : mg "min" = none
  divmod : mg "divmod" = none
  isi : mg "isinstance" = none
  str : mg "str" = none
  int : mg "int" = none
  bool : mg "bool" = none
  all : mg "all" = none
  range : mg "range" = none
  repr : mg "repr" = none

def Rng (H : Hp) (r : Addr) : Prop :=
  ∃ a b : Int, H r = some (.lst [.int a, .int b]) ∧ 0 ≤ a ∧ 0 ≤ b ∧ b < 2147483587
/-- all but what stands at r is kept -/
def Ext (r : Addr) (H H' : Hp) : Prop := ∀ q o, q ≠ r → H q = some o → H' q = some o
theorem Ext.refl (r : Addr) (H : Hp) : Ext r H H := fun _ _ _ h => h
theorem Ext.trans {r : Addr} {H H1 H2 : Hp} (a : Ext r H H1) (b : Ext r H1 H2) : Ext r H H2 :=
  fun q o n h => b q o n (a q o n h)
theorem Ext.new {r p : Addr} {H : Hp} {o : HO} (h : H p = none) : Ext r H (upd H p o) :=
  fun q u _ e => by rw [upd_ne (ne_of_none e h)]; exact e
theorem Ext.at {r : Addr} {H : Hp} {o : HO} : Ext r H (upd H r o) :=
  fun q u n e => by rw [upd_ne n]; exact e
theorem Rng.new {r p : Addr} {H : Hp} {o : HO} (R : Rng H r) (h : H p = none) : Rng (upd H p o) r := by
  obtain ⟨a, b, e, z⟩ := R
  exact ⟨a, b, by rw [upd_ne (ne_of_none e h)]; exact e, z⟩
theorem Rng.free {r p : Addr} {H : Hp} (R : Rng H r) (h : H p = none) : r ≠ p := by
  obtain ⟨a, b, e, z⟩ := R
  exact ne_of_none e h

def spRng (K : PySem.W.Frag) : Sp := fun vs H Q _ => ∃ (a : Addr) (ns : List Int) (k : Int),
  vs = [.ref a, .int k] ∧ SqL K H a (ns.map V.int) ∧ 0 ≤ k ∧ k ≤ 1000 ∧
  ∀ r H', H r = none → Same H H' → Rng H' r → Q (.ref r) H'
def spDraw : Sp := fun vs H Q _ => ∃ (r : Addr) (m : Int), vs = [.ref r, .int m] ∧ Rng H r ∧ 0 < m ∧
  m.natAbs < 2 ^ 250 ∧ ∀ (d : Int) (H' : Hp), Ext r H H' → Rng H' r → 0 ≤ d → d < m → Q (.int d) H'
def spChoice (K : PySem.W.Frag) : Sp := fun vs H Q _ => ∃ (r l : Addr) (xs : List V),
  vs = [.ref r, .ref l] ∧ Rng H r ∧ SqL K H l xs ∧ l ≠ r ∧ 0 < xs.length ∧ xs.length ≤ 1000 ∧
  ∀ (v : V) (H' : Hp), Ext r H H' → Rng H' r → v ∈ xs → Q v H'

theorem Ext.sqL {K : PySem.W.Frag} {r a : Addr} {H H' : Hp} {xs : List V} (e : Ext r H H') (n : a ≠ r)
    (h : SqL K H a xs) : SqL K H' a xs := by
  rcases h with (h | ⟨o, h⟩) | h
  · exact .inl (.inl (e _ _ n h))
  · exact .inl (.inr ⟨o, e _ _ n h⟩)
  · exact .inr h

theorem at_in {α : Type} {xs : List α} {i : Int} {v : α} (h0 : 0 ≤ i) (h1 : i.toNat < xs.length)
    (h : xs[i.toNat]? = some v) : atI xs i = some v := by
  have e : i = ((i.toNat : Nat) : Int) := by omega
  rw [e]
  exact atI_nat h
section
variable {P : Program} {w : World} {K : PySem.W.Frag} {mg : Str → Option Value} {base : Heap}

theorem scR : FnScope ["_law_script", "_law_k", "_law_cell"] ["_law_script", "_law_k"]
    (defScope sRng) :=
  ⟨rfl, rfl, rfl, by decide +kernel, rfl, by decide +kernel, by decide +kernel⟩
theorem ok_rng {f : Addr} {fd : FuncData} (F : Fun K "_law_rng" "_law_rng" sRng f fd) (T : Txt mg) :
    FnOk P w K mg base CX0 1 f fd ["_law_script", "_law_k"] (spRng K) := by
  refine F.ok scR (fun vs H Q E h => ?_) (fun cdv A outer s H vs Q E hr h => ?_)
  · obtain ⟨a, ns, k, rfl, _⟩ := h
    rfl
  · obtain ⟨a, ns, k, rfl, hS, k0, k1, q⟩ := h
    refine ⟨_, pss_cons (ps_set (i := 2) scR.nd rfl (Or.inl rfl)
        (pe_ifExp (pt_cmpR op_lt (pv 1) (pe_callB call_len_seq (by rfl) T.len PySem.boot_len (pa_cons (pv 0) pa_nil)) (nomark _))
          (pe_callB call_abs (by rfl) T.abs (by decide +kernel) (pa_cons (pe_ix ix_list (pv 0) (pv 1) (fun _ _ => rfl)) pa_nil)) pe_int))
      (pss_one (ps_ret (pe_lst (pa_cons
        (pe_callB (call_max2 rfl) (by rfl) T.max (by decide +kernel) (pa_cons pe_int (pa_cons (pe_op op_sub (pv 2) (pe_op op_pow pe_int pe_int)) pa_nil)))
        (pa_cons (pe_op op_add (pe_op op_mod (pe_op op_pow (pe_op op_add (pe_op op_add (pe_op op_mod (pv 2) pe_int) (pe_op op_mul pe_int (pv 1))) pe_int) pe_int) pe_int) pe_int) pa_nil))))), ?_⟩
    refine ⟨_, rfl, _, rfl, a, _, rfl, .inl hS, _, _, rfl, rfl, _, rfl, ?_⟩
    have fin : ∀ c : Int, 0 ≤ c → ∀ (x y : Int), x = (if c - 10 ^ (18 : Int).toNat > 0 then c - 10 ^ (18 : Int).toNat else 0) →
        y = (c % 2147483543 + 101 * k + 7) ^ (2 : Int).toNat % 2147483497 + 1 → 0 ≤ x ∧ 0 ≤ y ∧ y < 2147483587 := by
      intro c hc x y hx hy
      have e1 := Int.emod_nonneg ((c % 2147483543 + 101 * k + 7) ^ (2 : Int).toNat) (by decide : (2147483497 : Int) ≠ 0)
      have e2 := Int.emod_lt_of_pos ((c % 2147483543 + 101 * k + 7) ^ (2 : Int).toNat) (by decide : (0 : Int) < 2147483497)
      refine ⟨?_, by omega, by omega⟩
      rw [hx]
      split <;> omega
    have tail : ∀ c : Int, 0 ≤ c → ∀ p, H p = none → ∀ (x y : Int), 0 ≤ x ∧ 0 ≤ y ∧ y < 2147483587 → Q (.ref p) (upd H p (.lst [.int x, .int y])) := by
      intro c hc p hp x y hxy
      exact q p _ hp (fun b o e => by rw [upd_ne (ne_of_none e hp)]; exact e) ⟨x, y, upd_same, hxy⟩
    have bnd : ∀ c : Int, (c % 2147483543 + 101 * k + 7).natAbs < 2 ^ 64 := fun c => by
      have e1 := Int.emod_nonneg c (by decide : (2147483543 : Int) ≠ 0)
      have e2 := Int.emod_lt_of_pos c (by decide : (0 : Int) < 2147483543)
      omega
    refine ite2 (fun hlt => ?_) (fun _ => ?_)
    · have hlt' : k < (ns.map V.int).length := of_decide_eq_true hlt
      have hk : k = ((k.toNat : Nat) : Int) := by omega
      have hk2 : k.toNat < ns.length := by rw [List.length_map] at hlt'; omega
      refine ⟨_, rfl, _, rfl, a, _, _, .int (ns[k.toNat]), rfl, rfl, hS, at_in k0 (by simp [hk2]) (by simp [hk2]), _, rfl, ?_⟩
      have hc : (0 : Int) ≤ if ns[k.toNat] < 0 then -ns[k.toNat] else ns[k.toNat] := by split <;> omega
      generalize (if ns[k.toNat] < 0 then -ns[k.toNat] else ns[k.toNat]) = c at hc
      refine ⟨_, rfl, _, _, rfl, rfl, ⟨by decide, by decide, by decide⟩, _, _, rfl, rfl, _, _, rfl, ?_⟩
      refine ⟨_, rfl, _, _, rfl, rfl, (by show (0 : Int) < 2147483543; decide), _, rfl, _, _, rfl, rfl, .inl ⟨by decide, by decide⟩, _, _, rfl, rfl, _, _, rfl, rfl, _, _, rfl, rfl, ⟨by decide, by decide, bnd c⟩, _, _, rfl, rfl, (by show (0 : Int) < 2147483497; decide), _, _, rfl, rfl, (by show 2 ≤ sizeLine; decide), fun p hp => ?_⟩
      exact tail c hc p hp _ _ (fin c hc _ _ rfl rfl)
    · refine ⟨_, rfl, _, _, rfl, rfl, ⟨by decide, by decide, by decide⟩, _, _, rfl, rfl, _, _, rfl, ?_⟩
      refine ⟨_, rfl, _, _, rfl, rfl, (by show (0 : Int) < 2147483543; decide), _, rfl, _, _, rfl, rfl, .inl ⟨by decide, by decide⟩, _, _, rfl, rfl, _, _, rfl, rfl, _, _, rfl, rfl, ⟨by decide, by decide, bnd 0⟩, _, _, rfl, rfl, (by show (0 : Int) < 2147483497; decide), _, _, rfl, rfl, (by show 2 ≤ sizeLine; decide), fun p hp => ?_⟩
      exact tail 0 (by decide) p hp _ _ (fin 0 (by decide) _ _ rfl rfl)

theorem scD : FnScope ["_law_rng_here", "_law_many", "_law_digit"] ["_law_rng_here", "_law_many"]
    (defScope sDraw) :=
  ⟨rfl, rfl, rfl, by decide +kernel, rfl, by decide +kernel, by decide +kernel⟩
theorem ok_draw {f : Addr} {fd : FuncData} (F : Fun K "_law_draw" "_law_draw" sDraw f fd) (T : Txt mg) :
    FnOk P w K mg base CX0 1 f fd ["_law_rng_here", "_law_many"] spDraw := by
  refine F.ok scD (fun vs H Q E h => ?_) (fun cdv A outer s H vs Q E hr h => ?_)
  · obtain ⟨r, m, rfl, _⟩ := h
    rfl
  · obtain ⟨r, m, rfl, R, m0, m1, q⟩ := h
    have R' := R
    obtain ⟨a, b, hL, a0, b0, b1⟩ := R
    refine ⟨_, pss_cons (ps_if (pt_cmpR op_gt (pe_ix ix_list (pv 0) pe_int (fun _ _ => rfl)) pe_int (nomark _))
        (pss_cons (ps_asg (pe_callB call_divmodW (by rfl) T.divmod (by decide +kernel) (pa_cons (pe_ix ix_list (pv 0) pe_int (fun _ _ => rfl)) (pa_cons (pv 1) pa_nil)))
            (pg_tup rfl (pgs_cons (pg_sub (pv 0) pe_int set_list) (pgs_cons (pg_name (i := 2) scD.nd rfl (Or.inl rfl)) pgs_nil))))
          (pss_one (ps_ret (pv 2)))) pss_nil)
      (pss_cons (ps_asg (pe_op op_mod (pe_op op_add (pe_op op_mul (pe_ix ix_list (pv 0) pe_int (fun _ _ => rfl)) pe_int) pe_int) pe_int) (pg_sub (pv 0) pe_int set_list))
        (pss_one (ps_ret (pe_op op_mod (pe_op op_fdiv (pe_op op_mod (pe_op op_mul (pe_ix ix_list (pv 0) pe_int (fun _ _ => rfl)) (pe_ix ix_list (pv 0) pe_int (fun _ _ => rfl))) pe_int) pe_int) (pv 1))))), ?_⟩
    refine ⟨_, rfl, r, _, _, _, rfl, rfl, SqL.of hL, rfl, _, _, rfl, rfl, _, rfl, ?_⟩
    refine ite2 (fun hgt => ?_) (fun _ => ?_)
    · refine ⟨_, rfl, r, _, _, _, rfl, rfl, SqL.of hL, rfl, _, rfl, _, _, rfl, ⟨m0, PyProof.noPylong_of_log2 (Nat.lt_of_lt_of_le (PySem.Flt.log2_lt_of (by decide) m1) (by decide))⟩, fun p hp => ?_⟩
      have nrp : r ≠ p := ne_of_none hL hp
      refine ⟨p, _, rfl, SqT.of upd_same, rfl, ?_⟩
      refine ⟨_, _, rfl, _, rfl, r, _, _, _, rfl, rfl, (by rw [upd_ne nrp]; exact hL), rfl, ?_⟩
      refine ⟨_, _, rfl, rfl, _, rfl, ?_⟩
      refine q _ _ ((Ext.new hp).trans Ext.at) ⟨_, _, upd_same, Int.ediv_nonneg a0 (by omega), b0, b1⟩ (Int.emod_nonneg _ (by omega)) (Int.emod_lt_of_pos _ m0)
    · refine ⟨_, rfl, r, _, _, _, rfl, rfl, SqL.of hL, rfl, _, _, rfl, rfl, .inr ⟨by decide, by decide⟩, _, _, rfl, rfl, _, _, rfl, rfl, (by show (0 : Int) < 2147483587; decide), ?_⟩
      refine ⟨_, rfl, r, _, _, _, rfl, rfl, hL, rfl, ?_⟩
      have c0 := Int.emod_nonneg (b * 48271 + 10007) (by decide : (2147483587 : Int) ≠ 0)
      have c1 := Int.emod_lt_of_pos (b * 48271 + 10007) (by decide : (0 : Int) < 2147483587)
      refine ⟨_, rfl, r, _, _, _, rfl, rfl, SqL.of upd_same, rfl, _, rfl, r, _, _, _, rfl, rfl, SqL.of upd_same, rfl, _, _, rfl, rfl, .inl ⟨Int.lt_of_lt_of_le (by decide) c0, Int.lt_trans c1 (by decide)⟩, _, _, rfl, rfl, (by show (0 : Int) < 2147483549; decide), _, _, rfl, rfl, ⟨by decide, by decide⟩, _, rfl, _, _, rfl, rfl, m0, ?_⟩
      exact q _ _ Ext.at ⟨_, _, upd_same, a0, c0, c1⟩ (Int.emod_nonneg _ (by omega)) (Int.emod_lt_of_pos _ m0)

theorem scC : FnScope ["_law_rng_here", "_law_options"] ["_law_rng_here", "_law_options"]
    (defScope sChoice) :=
  ⟨rfl, rfl, rfl, by decide +kernel, rfl, by decide +kernel, by decide +kernel⟩
theorem ok_choice {f fD : Addr} {fd fdD : FuncData} (F : Fun K "_law_choice" "_law_choice" sChoice f fd) (T : Txt mg)
    (D : Fun K "_law_draw" "_law_draw" sDraw fD fdD) (bD : Binds K fdD ["_law_rng_here", "_law_many"] []) (gD : mg "_law_draw" = some (.ref fD)) :
    FnOk P w K mg base CX0 2 f fd ["_law_rng_here", "_law_options"] (spChoice K) := by
  refine F.ok scC (fun vs H Q E h => ?_) (fun cdv A outer s H vs Q E hr h => ?_)
  · obtain ⟨r, l, xs, rfl, _⟩ := h
    rfl
  · obtain ⟨r, l, xs, rfl, R, hl, nl, x0, x1, q⟩ := h
    refine ⟨_, pss_one (ps_ret (pe_ix ix_list (pv 1) (pe_call (ok_draw D T) hr (by rfl) gD D.kp bD .nil pass0 (pa_cons (pv 0) (pa_cons (pe_callB call_len_seq (by rfl) T.len PySem.boot_len (pa_cons (pv 1) pa_nil)) pa_nil))) (fun _ _ => rfl))), ?_⟩
    refine ⟨_, rfl, _, rfl, _, rfl, l, _, rfl, .inl hl, r, _, rfl, R, by omega, by omega, fun d H' E' R' d0 d1 => ?_⟩
    have hd : d = ((d.toNat : Nat) : Int) := by omega
    have hd2 : d.toNat < xs.length := by omega
    refine ⟨l, _, _, xs[d.toNat], rfl, rfl, E'.sqL nl hl, at_in d0 hd2 (by simp [hd2]), ?_⟩
    exact q _ _ E' R' (List.getElem_mem _)
end
end N1
namespace N1
open PySem L2 G
abbrev LET : Str := "abcdefghijklmnopqrstuvwxyz"
def isStr : PyData → Bool
  | .str _ => true
  | _ => false
def isInt : PyData → Bool
  | .int _ => true
  | .bool _ => true
  | _ => false
def isBool : PyData → Bool
  | .bool _ => true
  | _ => false
theorem kStr {K : PySem.W.Frag} : ∀ d : PyData,
    PySem.W.kitOne K (.type (tyD d)) (.type "str") = some (isStr d)
  | .none => kit_ty (a := "NoneType") (b := "str") (r := false) (by decide +kernel)
  | .bool _ => kit_ty (a := "bool") (b := "str") (r := false) (by decide +kernel)
  | .int _ => kit_ty (a := "int") (b := "str") (r := false) (by decide +kernel)
  | .str _ => kit_ty (a := "str") (b := "str") (r := true) (by decide +kernel)
  | .list _ => kit_ty (a := "list") (b := "str") (r := false) (by decide +kernel)
  | .tuple _ => kit_ty (a := "tuple") (b := "str") (r := false) (by decide +kernel)
  | .dict _ => kit_ty (a := "dict") (b := "str") (r := false) (by decide +kernel)
theorem kInt {K : PySem.W.Frag} : ∀ d : PyData,
    PySem.W.kitOne K (.type (tyD d)) (.type "int") = some (isInt d)
  | .none => kit_ty (a := "NoneType") (b := "int") (r := false) (by decide +kernel)
  | .bool _ => kit_ty (a := "bool") (b := "int") (r := true) (by decide +kernel)
  | .int _ => kit_ty (a := "int") (b := "int") (r := true) (by decide +kernel)
  | .str _ => kit_ty (a := "str") (b := "int") (r := false) (by decide +kernel)
  | .list _ => kit_ty (a := "list") (b := "int") (r := false) (by decide +kernel)
  | .tuple _ => kit_ty (a := "tuple") (b := "int") (r := false) (by decide +kernel)
  | .dict _ => kit_ty (a := "dict") (b := "int") (r := false) (by decide +kernel)
theorem kBool {K : PySem.W.Frag} : ∀ d : PyData,
    PySem.W.kitOne K (.type (tyD d)) (.type "bool") = some (isBool d)
  | .none => kit_ty (a := "NoneType") (b := "bool") (r := false) (by decide +kernel)
  | .bool _ => kit_ty (a := "bool") (b := "bool") (r := true) (by decide +kernel)
  | .int _ => kit_ty (a := "int") (b := "bool") (r := false) (by decide +kernel)
  | .str _ => kit_ty (a := "str") (b := "bool") (r := false) (by decide +kernel)
  | .list _ => kit_ty (a := "list") (b := "bool") (r := false) (by decide +kernel)
  | .tuple _ => kit_ty (a := "tuple") (b := "bool") (r := false) (by decide +kernel)
  | .dict _ => kit_ty (a := "dict") (b := "bool") (r := false) (by decide +kernel)
def inLet (c : Nat) : Bool := decide (c ∈ LET.cps.toList)
def nameB : PyData → Bool
  | .str z => !decide (z.length < 1) && !decide (z.length > 8) && z.cps.toList.all inLet
  | _ => false
def verB : PyData → Bool
  | .int i => decide (0 ≤ i)
  | _ => false
/-- a data's texts at the top are short -/
def Short (d : PyData) : Prop :=
  ∀ z, d = .str z → z.length ≤ 1000 ∧ ∀ c ∈ z.cps.toList, c < 1114112

def spIs (b : PyData → Bool) : Sp := fun vs H Q _ => ∃ (v : V) (d : PyData),
  vs = [v] ∧ Da H v d ∧ Short d ∧ ∀ H' : Hp, Same H H' → Q (.bl (b d)) H'

theorem yesT {σ : L2.St} {H : Hp} {a b : Hp → Prop} (h : a H) :
    tYes σ H fun k J => if k = true then a J else b J := by
  show if true = true then a H else b H
  exact iteT h
theorem take_next {α : Type} {l : List α} {i : Nat} {c : α} (h : l[i]? = some c) :
    l.take (i + 1) = l.take i ++ [c] := by
  rw [List.take_add_one, h]
  rfl

section
variable {P : Program} {w : World} {K : PySem.W.Frag} {mg : Str → Option Value} {base : Heap}

theorem scN : FnScope ["value", "letter"] ["value"] (defScope sIsName) :=
  ⟨rfl, rfl, rfl, by decide +kernel, rfl, by decide +kernel, by decide +kernel⟩
theorem ok_name {f : Addr} {fd : FuncData} (F : Fun K "is_name" "is_name" sIsName f fd) (T : Txt mg)
    {t1 t2 : Tok} (gL : mg "LETTERS" = some (.str LET t1)) (gM : mg "MOST_LETTERS" = some (.int 8 t2)) :
    FnOk P w K mg base CX0 1 f fd ["value"] (spIs nameB) := by
  refine F.ok scN (fun vs H Q E h => ?_) (fun cdv A outer s H vs Q E hr h => ?_)
  · obtain ⟨v, d, rfl, _⟩ := h
    rfl
  · obtain ⟨v, d, rfl, hd, sh, q⟩ := h
    refine ⟨_, pss_cons (ps_if (PW.pt (pw_or (pt_not (pt_val (pe_callB call_isi (by rfl) T.isi (by decide +kernel) (pa_cons (pv 0) (pa_cons (pe_bltn (v := .ty "str") (by rfl) T.str (by decide +kernel) rfl) pa_nil)))))
          (pw_or (pt_cmpR op_lt (pe_callB call_len_str (by rfl) T.len PySem.boot_len (pa_cons (pv 0) pa_nil)) pe_int (nomark _))
            (pw_or1 (pt_cmpR op_gt (pe_callB call_len_str (by rfl) T.len PySem.boot_len (pa_cons (pv 0) pa_nil)) (pe_glob (v := .int 8) rfl gM ⟨_, rfl⟩) (nomark _))))))
        (pss_one (ps_ret pe_bl)) pss_nil)
      (pss_one (ps_ret (pe_callB (cr_all rfl) (by rfl) T.all (by decide +kernel) (pa_cons
        (pe_lc (own := [("letter", 1)]) (g := gName 1) (tt := tYes) rfl scN.nd (pi_str (pv 0)) (blkOk_by (own := [("letter", 1)]) (N := ["value", "letter"]) (sc := defScope sIsName) (by decide +kernel))
          (fun _ _ _ _ _ => pg_name (i := 1) scN.nd rfl (Or.inl rfl)) (fun _ _ _ _ _ => pts_nil) (fun _ _ _ _ _ => pe_cmpR op_in_sign (pv 1) (pe_glob (v := .str LET) rfl gL ⟨_, rfl⟩) (by rfl))) pa_nil)))), ?_⟩
    refine ⟨_, rfl, _, _, _, _, _, rfl, .ty _, hd.ty, kStr d, _, rfl, ?_⟩
    cases hd with
    | str z =>
      refine iteF ?_
      have hz : z.length ≤ sizeLine := Nat.le_trans (sh z rfl).1 (by decide)
      refine ⟨_, rfl, _, rfl, hz, _, _, rfl, rfl, _, rfl, ?_⟩
      refine ite2 (fun h1 => ?_) (fun h1 => ?_)
      · refine iteT ?_
        have e : nameB (.str z) = false := by
          have h2 : z.length < 1 := by simp at h1; omega
          simp [nameB, h2]
        have := q H (Same.refl H)
        rw [e] at this
        exact this
      · refine ⟨_, rfl, _, rfl, hz, _, _, rfl, rfl, _, rfl, ?_⟩
        refine ite2 (fun h2 => ?_) (fun h2 => ?_)
        · have e : nameB (.str z) = false := by
            have h3 : z.length > 8 := by simp at h2; omega
            simp [nameB, h3]
          have := q H (Same.refl H)
          rw [e] at this
          exact this
        · refine ⟨_, rfl, z, rfl, fun D hD => lc_it walk_str
            (fun i H' => Same H H' ∧ H' D = some (.lst (((z.cps.toList.take i).map inLet).map V.bl)))
            ⟨fun b o e => by rw [upd_ne (ne_of_none e hD)]; exact e, upd_same⟩ (fun _ _ _ _ => trivial) ?_ ?_⟩
          · rintro i x H1 H2 hi ⟨s1, l1⟩ ⟨rfl, c, hc, rfl⟩
            refine ⟨rfl, yesT ?_⟩
            refine ⟨_, rfl, c, _, rfl, rfl, _, l1, ?_, ?_, ?_⟩
            · have e2 : z.cps.size ≤ 1000 := (sh z rfl).1
              simp only [List.length_map, List.length_take, Array.length_toList]
              rw [sizeLine_eq]
              omega
            · intro b o e
              rw [upd_ne (ne_of_none e hD)]
              exact s1 b o e
            · rw [upd_same, take_next (c := c) (by simpa using hc)]
              simp [inLet]
          · rintro H1 ⟨s1, l1⟩
            refine ⟨D, _, rfl, SqL.of l1, ?_⟩
            have e : nameB (.str z) = ((z.cps.toList.take z.cps.size).map inLet).all id := by
              have h3 : ¬ z.length < 1 := by simp at h1; omega
              have h4 : ¬ z.length > 8 := by simp at h2; omega
              simp [nameB, h3, h4, List.take_of_length_le]
            rw [← e]
            exact q H1 s1
    | non => exact iteT (q H (Same.refl H))
    | bl b => exact iteT (q H (Same.refl H))
    | int i => exact iteT (q H (Same.refl H))
    | lst n h t => exact iteT (q H (Same.refl H))
    | tup h t => exact iteT (q H (Same.refl H))
    | dic h t => exact iteT (q H (Same.refl H))

theorem scV : FnScope ["value"] ["value"] (defScope sIsVer) :=
  ⟨rfl, rfl, rfl, by decide +kernel, rfl, by decide +kernel, by decide +kernel⟩
theorem ok_ver {f : Addr} {fd : FuncData} (F : Fun K "is_version" "is_version" sIsVer f fd) (T : Txt mg) :
    FnOk P w K mg base CX0 1 f fd ["value"] (spIs verB) := by
  refine F.ok scV (fun vs H Q E h => ?_) (fun cdv A outer s H vs Q E hr h => ?_)
  · obtain ⟨v, d, rfl, _⟩ := h
    rfl
  · obtain ⟨v, d, rfl, hd, sh, q⟩ := h
    refine ⟨_, pss_one (ps_ret (pe_and (pe_callB call_isi (by rfl) T.isi (by decide +kernel) (pa_cons (pv 0) (pa_cons (pe_bltn (v := .ty "int") (by rfl) T.int (by decide +kernel) rfl) pa_nil)))
      (pe_and (pe_not (pe_callB call_isi (by rfl) T.isi (by decide +kernel) (pa_cons (pv 0) (pa_cons (pe_bltn (v := .ty "bool") (by rfl) T.bool (by decide +kernel) rfl) pa_nil))))
        (pe_one (pe_cmpR op_ge (pv 0) pe_int (nomark _)))))), ?_⟩
    have ty := hd.ty (K := K)
    have q0 := q H (Same.refl H)
    refine ⟨_, rfl, _, _, _, _, _, rfl, .ty _, ty, kInt d, _, rfl, ?_⟩
    cases hd with
    | int i => exact iteT ⟨_, rfl, _, _, _, _, _, rfl, .ty _, ty, kBool _, _, rfl, _, rfl, iteT ⟨_, rfl, _, _, rfl, rfl, q0⟩⟩
    | bl b => exact iteT ⟨_, rfl, _, _, _, _, _, rfl, .ty _, ty, kBool _, _, rfl, _, rfl, iteF q0⟩
    | non => exact iteF q0
    | str i => exact iteF q0
    | lst n h t => exact iteF q0
    | tup h t => exact iteF q0
    | dic h t => exact iteF q0

theorem scLV : FnScope ["_law_value"] ["_law_value"] (defScope sLVer) :=
  ⟨rfl, rfl, rfl, by decide +kernel, rfl, by decide +kernel, by decide +kernel⟩
theorem ok_lver {f : Addr} {fd : FuncData} (F : Fun K "_law_is_version" "_law_is_version" sLVer f fd) (T : Txt mg) :
    FnOk P w K mg base CX0 1 f fd ["_law_value"] (spIs verB) := by
  refine F.ok scLV (fun vs H Q E h => ?_) (fun cdv A outer s H vs Q E hr h => ?_)
  · obtain ⟨v, d, rfl, _⟩ := h
    rfl
  · obtain ⟨v, d, rfl, hd, sh, q⟩ := h
    refine ⟨_, pss_one (ps_ret (pe_and (pe_callB call_isi (by rfl) T.isi (by decide +kernel) (pa_cons (pv 0) (pa_cons (pe_bltn (v := .ty "int") (by rfl) T.int (by decide +kernel) rfl) pa_nil)))
      (pe_and (pe_not (pe_callB call_isi (by rfl) T.isi (by decide +kernel) (pa_cons (pv 0) (pa_cons (pe_bltn (v := .ty "bool") (by rfl) T.bool (by decide +kernel) rfl) pa_nil))))
        (pe_one (pe_cmpR op_ge (pv 0) pe_int (nomark _)))))), ?_⟩
    have ty := hd.ty (K := K)
    have q0 := q H (Same.refl H)
    refine ⟨_, rfl, _, _, _, _, _, rfl, .ty _, ty, kInt d, _, rfl, ?_⟩
    cases hd with
    | int i => exact iteT ⟨_, rfl, _, _, _, _, _, rfl, .ty _, ty, kBool _, _, rfl, _, rfl, iteT ⟨_, rfl, _, _, rfl, rfl, q0⟩⟩
    | bl b => exact iteT ⟨_, rfl, _, _, _, _, _, rfl, .ty _, ty, kBool _, _, rfl, _, rfl, iteF q0⟩
    | non => exact iteF q0
    | str i => exact iteF q0
    | lst n h t => exact iteF q0
    | tup h t => exact iteF q0
    | dic h t => exact iteF q0

theorem scLN : FnScope ["_law_value", "_law_sign"] ["_law_value"] (defScope sLName) :=
  ⟨rfl, rfl, rfl, by decide +kernel, rfl, by decide +kernel, by decide +kernel⟩
def notLet (c : Nat) : Bool := !decide (c ∈ LET.cps.toList)
theorem dpStr {K : PySem.W.Frag} {H : Hp} : ∀ l : List Nat,
    DpAll K H (l.map fun c => V.str ⟨#[c]⟩) (l.map fun c => PyData.str ⟨#[c]⟩)
  | [] => .nil
  | c :: l => .cons (.str _) (dpStr l)
theorem shStr : ∀ l : List Nat, (∀ c ∈ l, c < 1114112) →
    PyData.canLayAll0 (l.map fun c => PyData.str ⟨#[c]⟩) = true
  | [], _ => rfl
  | c :: l, h => by
    have h1 := h c (by simp)
    have h2 := shStr l fun x hx => h x (by simp [hx])
    simp [PyData.canLayAll0, PyData.canLay0, PyData.strOk, h2, h1]
theorem dpZero : ∀ l : List Nat, PyData.depthAll (l.map fun c => PyData.str ⟨#[c]⟩) = 0
  | [] => rfl
  | c :: l => by simp [PyData.depthAll, PyData.depth, dpZero l]
theorem eqvNil (l : List Nat) :
    PyData.eqv (.list (l.map fun c => PyData.str ⟨#[c]⟩)) (.list []) = l.isEmpty := by
  cases l <;> simp [PyData.eqv, PyData.eqvAll]
theorem filt (l : List Nat) : (l.filter notLet).isEmpty = l.all inLet := by
  induction l with
  | nil => rfl
  | cons c l ih =>
    by_cases h : c ∈ LET.cps.toList
    · have e1 : notLet c = false := by simp only [notLet, h, decide_true, Bool.not_true]
      have e2 : inLet c = true := by simp only [inLet, h, decide_true]
      rw [List.filter_cons_of_neg (by rw [e1]; decide), ih, List.all_cons, e2, Bool.true_and]
    · have e1 : notLet c = true := by simp only [notLet, h, decide_false, Bool.not_false]
      have e2 : inLet c = false := by simp only [inLet, h, decide_false]
      rw [List.filter_cons_of_pos e1, List.all_cons, e2, Bool.false_and]
      rfl
theorem ok_lname {f : Addr} {fd : FuncData} (F : Fun K "_law_is_name" "_law_is_name" sLName f fd) (T : Txt mg) :
    FnOk P w K mg base CX0 1 f fd ["_law_value"] (spIs nameB) := by
  refine F.ok scLN (fun vs H Q E h => ?_) (fun cdv A outer s H vs Q E hr h => ?_)
  · obtain ⟨v, d, rfl, _⟩ := h
    rfl
  · obtain ⟨v, d, rfl, hd, sh, q⟩ := h
    refine ⟨_, pss_cons (ps_if (PW.pt (pw_or (pt_not (pt_val (pe_callB call_isi (by rfl) T.isi (by decide +kernel) (pa_cons (pv 0) (pa_cons (pe_bltn (v := .ty "str") (by rfl) T.str (by decide +kernel) rfl) pa_nil)))))
          (pw_or (pt_cmpR op_lt (pe_callB call_len_str (by rfl) T.len PySem.boot_len (pa_cons (pv 0) pa_nil)) pe_int (nomark _))
            (pw_or1 (pt_cmpR op_gt (pe_callB call_len_str (by rfl) T.len PySem.boot_len (pa_cons (pv 0) pa_nil)) pe_int (nomark _))))))
        (pss_one (ps_ret pe_bl)) pss_nil)
      (pss_one (ps_ret (pe_cmpR (op_eqD hr.units)
        (pe_lc (own := [("_law_sign", 1)]) (g := gName 1) rfl scLN.nd (pi_str (pv 0)) (blkOk_by (own := [("_law_sign", 1)]) (N := ["_law_value", "_law_sign"]) (sc := defScope sLName) (by decide +kernel))
          (fun _ _ _ _ _ => pg_name (i := 1) scLN.nd rfl (Or.inl rfl)) (fun _ _ _ _ _ => pts_one (pt_cmpR op_notIn_sign (pv 1) pe_str (by rfl))) (fun _ _ _ _ _ => pv 1)) (pe_lst pa_nil) (nomark _)))), ?_⟩
    refine ⟨_, rfl, _, _, _, _, _, rfl, .ty _, hd.ty, kStr d, _, rfl, ?_⟩
    cases hd with
    | str z =>
      refine iteF ?_
      have hz : z.length ≤ sizeLine := Nat.le_trans (sh z rfl).1 (by decide)
      refine ⟨_, rfl, _, rfl, hz, _, _, rfl, rfl, _, rfl, ?_⟩
      refine ite2 (fun h1 => ?_) (fun h1 => ?_)
      · refine iteT ?_
        have e : nameB (.str z) = false := by
          have h2 : z.length < 1 := by simp at h1; omega
          simp [nameB, h2]
        have := q H (Same.refl H)
        rw [e] at this
        exact this
      · refine ⟨_, rfl, _, rfl, hz, _, _, rfl, rfl, _, rfl, ?_⟩
        refine ite2 (fun h2 => ?_) (fun h2 => ?_)
        · have e : nameB (.str z) = false := by
            have h3 : z.length > 8 := by simp at h2; omega
            simp [nameB, h3]
          have := q H (Same.refl H)
          rw [e] at this
          exact this
        · refine ⟨_, rfl, z, rfl, fun D hD => lc_it walk_str
            (fun i H' => Same H H' ∧ H' D = some (.lst (((z.cps.toList.take i).filter notLet).map fun c => V.str ⟨#[c]⟩)))
            ⟨fun b o e => by rw [upd_ne (ne_of_none e hD)]; exact e, upd_same⟩ (fun _ _ _ _ => trivial) ?_ ?_⟩
          · rintro i x H1 H2 hi ⟨s1, l1⟩ ⟨rfl, c, hc, rfl⟩
            have hc' : z.cps.toList[i]? = some c := by simpa using hc
            refine ⟨rfl, _, rfl, c, _, rfl, rfl, _, rfl, ?_⟩
            refine ite2 (fun hn => ?_) (fun hn => ?_)
            · refine ⟨_, rfl, _, l1, ?_, ?_, ?_⟩
              · have e2 : z.cps.size ≤ 1000 := (sh z rfl).1
                have e3 := List.length_filter_le notLet (z.cps.toList.take i)
                have e4 : (z.cps.toList.take i).length ≤ z.cps.size := by simp; omega
                rw [List.length_map, sizeLine_eq]
                omega
              · intro b o e
                rw [upd_ne (ne_of_none e hD)]
                exact s1 b o e
              · rw [upd_same, take_next hc', List.filter_append, List.filter_cons_of_pos (show notLet c = true from hn), List.filter_nil, List.map_append]
                rfl
            · refine ⟨s1, ?_⟩
              rw [l1, take_next hc', List.filter_append, List.filter_cons_of_neg (show ¬ notLet c = true from hn), List.filter_nil, List.append_nil]
          · rintro H1 ⟨s1, l1⟩
            have e0 : z.cps.toList.take z.cps.size = z.cps.toList := List.take_of_length_le (by simp)
            rw [e0] at l1
            refine ⟨Nat.zero_le _, fun p hp => ?_⟩
            have npD : D ≠ p := ne_of_none l1 hp
            refine ⟨_, _, .lst (SqL.of (by rw [upd_ne npD]; exact l1)) (dpStr _), .lst (SqL.of upd_same) .nil, ?_, by decide +kernel, ?_⟩
            · unfold PySem.SeqAt.shaped
              rw [Bool.and_eq_true]
              refine ⟨?_, ?_⟩
              · simp only [PyData.canLay0]
                exact shStr _ fun c hc => (sh z rfl).2 c ((List.mem_filter.mp hc).1)
              · simp only [PyData.depth, dpZero]
                decide
            · rw [eqvNil, filt]
              have e : nameB (.str z) = z.cps.toList.all inLet := by
                have h3 : ¬ z.length < 1 := by simp at h1; omega
                have h4 : ¬ z.length > 8 := by simp at h2; omega
                simp [nameB, h3, h4]
              rw [← e]
              exact q _ fun b o e => by rw [upd_ne (ne_of_none (s1 b o e) hp)]; exact s1 b o e
    | non => exact iteT (q H (Same.refl H))
    | bl b => exact iteT (q H (Same.refl H))
    | int i => exact iteT (q H (Same.refl H))
    | lst n h t => exact iteT (q H (Same.refl H))
    | tup h t => exact iteT (q H (Same.refl H))
    | dic h t => exact iteT (q H (Same.refl H))
end
end N1
namespace N1
open PySem L2 G
def TOk (n : Nat) (z : Str) : Prop := z.length ≤ n ∧ ∀ c ∈ z.cps.toList, c < 1114112
theorem TOk.app {n m : Nat} {a b : Str} (x : TOk n a) (y : TOk m b) : TOk (n + m) (a ++ b) := by
  refine ⟨?_, fun c hc => ?_⟩
  · rw [strLen_append]
    exact Nat.add_le_add x.1 y.1
  · have e : (a ++ b).cps.toList = a.cps.toList ++ b.cps.toList := by
      show (a.cps ++ b.cps).toList = _
      simp
    rw [e] at hc
    rcases List.mem_append.mp hc with h | h
    · exact x.2 c h
    · exact y.2 c h
theorem TOk.mono {n m : Nat} {a : Str} (x : TOk n a) (h : n ≤ m) : TOk m a := ⟨Nat.le_trans x.1 h, x.2⟩
theorem TOk.cut {n : Nat} {a : Str} (x : TOk n a) (lo hi : Option Int) : TOk n (cutS a lo hi) := by
  refine ⟨?_, fun c hc => ?_⟩
  · have e : (cutS a lo hi).length ≤ a.cps.toList.length := by
      show (List.toArray _).size ≤ _
      rw [List.size_toArray]
      rw [List.length_take, List.length_drop]
      omega
    have e2 : a.cps.toList.length = a.length := by simp [Str.length]
    rw [e2] at e
    exact Nat.le_trans e x.1
  · have h : c ∈ (a.cps.toList.drop (HT.sIx a.length 0 lo)).take (HT.sIx a.length a.length hi - HT.sIx a.length 0 lo) := by
      simpa [cutS] using hc
    exact x.2 c (List.mem_of_mem_drop (List.mem_of_mem_take h))
theorem TOk.join : ∀ ys : List Str, (∀ y ∈ ys, TOk 1 y) → TOk ys.length (Str.join "" ys)
  | [], _ => ⟨Nat.le_refl _, fun c hc => by simp [Str.join, Str.empty] at hc⟩
  | [y], h => h y (by simp)
  | y :: z :: r, h => by
    have h1 := h y (by simp)
    have h2 := TOk.join (z :: r) fun x hx => h x (by simp [hx])
    have h3 : TOk 0 ("" : Str) := ⟨by decide, by decide +kernel⟩
    show TOk _ (y ++ ("" : Str) ++ Str.join "" (z :: r))
    exact ((h1.app h3).app h2).mono (by simp; omega)
theorem TOk.one {c : Nat} (h : c < 1114112) : TOk 1 ⟨#[c]⟩ := ⟨Nat.le_refl _, fun d hd => by
  have e : d = c := by simpa using hd
  rw [e]
  exact h⟩
theorem letOk : ∀ c ∈ LET.cps.toList, c < 1114112 := by decide +kernel
theorem letLen : LET.cps.toList.length = 26 := by decide +kernel
abbrev SGN : Str := "AZ09_- .:,\n{~"
theorem sgnOk : ∀ c ∈ SGN.cps.toList, c < 1114112 := by decide +kernel
theorem sgnLen : SGN.cps.toList.length = 13 := by decide +kernel
theorem at_mem {α : Type} {xs : List α} {i : Int} (h0 : 0 ≤ i) (h1 : i < xs.length) :
    ∃ c, atI xs i = some c ∧ c ∈ xs := by
  have h2 : i.toNat < xs.length := by omega
  exact ⟨xs[i.toNat], at_in h0 h2 (by simp [h2]), List.getElem_mem _⟩

theorem Ext.none {r p : Addr} {H H' : Hp} (e : Ext r H H') (n : p ≠ r) (h : H' p = Option.none) : H p = Option.none := by
  cases z : H p with
  | none => rfl
  | some o =>
    rw [e p o n z] at h
    cases h
theorem sum_one : ∀ ys : List Str, (∀ y ∈ ys, y.length ≤ 1) → (ys.map (·.length)).sum ≤ ys.length
  | [], _ => Nat.le_refl _
  | y :: r, h => by
    have h1 := h y (by simp)
    have h2 := sum_one r fun x hx => h x (by simp [hx])
    simp only [List.map_cons, List.sum_cons, List.length_cons]
    omega
def spText : Sp := fun vs H Q _ => ∃ r : Addr, vs = [.ref r] ∧ Rng H r ∧
  ∀ (z : Str) (H' : Hp), Ext r H H' → Rng H' r → TOk 1000 z → Q (.str z) H'
def spNum : Sp := fun vs H Q _ => ∃ r : Addr, vs = [.ref r] ∧ Rng H r ∧
  ∀ (i : Int) (H' : Hp), Ext r H H' → Rng H' r → i.natAbs < 10 ^ 61 → Q (.int i) H'

section
variable {P : Program} {w : World} {K : PySem.W.Frag} {mg : Str → Option Value} {base : Heap}

theorem scT : FnScope ["_law_rng_here", "_law_letters", "_law_found", "_law_at", "_law_sign", "_law_k"]
    ["_law_rng_here"] (defScope sText) :=
  ⟨rfl, rfl, rfl, by decide +kernel, rfl, by decide +kernel, by decide +kernel⟩
theorem ok_text {f fD : Addr} {fd fdD : FuncData} (F : Fun K "_law_text" "_law_text" sText f fd) (T : Txt mg)
    (D : Fun K "_law_draw" "_law_draw" sDraw fD fdD) (bD : Binds K fdD ["_law_rng_here", "_law_many"] []) (gD : mg "_law_draw" = some (.ref fD)) :
    FnOk P w K mg base CX0 2 f fd ["_law_rng_here"] spText := by
  have GD : FnOk P w K mg base CX0 1 fD fdD ["_law_rng_here", "_law_many"] spDraw := ok_draw D T
  refine F.ok scT (fun vs H Q E h => ?_) (fun cdv A outer s H vs Q E hr1 h => ?_)
  · obtain ⟨r, rfl, _⟩ := h
    rfl
  · obtain ⟨r, rfl, R, q⟩ := h
    refine ⟨_, pss_cons (ps_set (i := 1) scT.nd rfl (Or.inr rfl) pe_str)
      (pss_cons (ps_set (i := 2) scT.nd rfl (Or.inl rfl) (pe_join pe_str
        (pe_lc (own := [("_law_k", 5)]) (g := gName 5) (tt := tYes) rfl scT.nd (pi_range1 (by rfl) T.range (pa_cons (pe_call GD hr1 (by rfl) gD D.kp bD .nil pass0 (pa_cons (pv 0) (pa_cons pe_int pa_nil))) pa_nil))
          (blkOk_by (own := [("_law_k", 5)]) (N := ["_law_rng_here", "_law_letters", "_law_found", "_law_at", "_law_sign", "_law_k"]) (sc := defScope sText) (by decide +kernel))
          (fun _ _ _ _ _ => pg_name (i := 5) scT.nd rfl (Or.inl rfl)) (fun _ _ _ _ _ => pts_nil) (fun _ _ _ _ _ => pe_ix ix_str (pv 1) (pe_call GD hr1 (by rfl) gD D.kp bD .nil pass0 (pa_cons (pv 0) (pa_cons pe_int pa_nil))) (fun _ _ => rfl)))))
      (pss_cons (ps_if (pt_cmpR op_gt (pe_call GD hr1 (by rfl) gD D.kp bD .nil pass0 (pa_cons (pv 0) (pa_cons pe_int pa_nil))) pe_int (nomark _)) (pss_one (ps_ret (pv 2))) pss_nil)
      (pss_cons (ps_par (by rfl) scT.nd (i := 3) (j := 4) rfl rfl (by decide) rfl rfl (pa_cons (pe_call GD hr1 (by rfl) gD D.kp bD .nil pass0 (pa_cons (pv 0) (pa_cons (pe_op op_add (pe_callB call_len_str (by rfl) T.len PySem.boot_len (pa_cons (pv 2) pa_nil)) pe_int) pa_nil))) (pa_cons (pe_ix ix_str pe_str (pe_call GD hr1 (by rfl) gD D.kp bD .nil pass0 (pa_cons (pv 0) (pa_cons pe_int pa_nil))) (fun _ _ => rfl)) pa_nil)) (by rfl))
      (pss_one (ps_ret (pe_op op_add_str (pe_op op_add_str (pe_slice sl_str (pv 2) po_none (po_some (pv 3))) (pv 4)) (pe_slice sl_str (pv 2) (po_some (pe_op op_add (pv 3) (pe_call GD hr1 (by rfl) gD D.kp bD .nil pass0 (pa_cons (pv 0) (pa_cons pe_int pa_nil))))) po_none))))))), ?_⟩
    refine ⟨⟨_, rfl⟩, _, rfl, r, _, rfl, R, by decide, by decide, fun d H1 E1 R1 d0 d1 => ?_⟩
    refine ⟨_, rfl, by omega, by omega, fun D hD => ?_⟩
    have nrD : r ≠ D := R1.free hD
    have hD0 : H D = none := E1.none nrD.symm hD
    refine lc_range (lo := 0) (n := d.toNat) (fun i J => Ext r H J ∧ Rng J r ∧ ∃ ys : List Str, J D = some (.lst (ys.map V.str)) ∧ ys.length = i ∧ ∀ y ∈ ys, TOk 1 y)
      ⟨E1.trans (Ext.new hD), R1.new hD, [], upd_same, rfl, fun _ z => by cases z⟩ ?_ ?_
    · rintro i J hi ⟨EJ, RJ, ys, hJ, hl, hy⟩
      refine ⟨rfl, yesT ?_⟩
      refine ⟨_, rfl, _, rfl, r, _, rfl, RJ, by decide, by decide, fun e J2 E2 R2 e0 e1 => ?_⟩
      obtain ⟨c, hc, hm⟩ := at_mem (xs := LET.cps.toList) e0 (by rw [letLen]; exact e1)
      have hJ2 := E2 _ _ nrD.symm hJ
      refine ⟨_, _, c, rfl, rfl, by decide +kernel, hc, _, hJ2, ?_, ?_⟩
      · rw [List.length_map, hl, sizeLine_eq]
        omega
      · refine ⟨fun b o n h => ?_, ?_, ys ++ [⟨#[c]⟩], ?_, by simp [hl], fun y z => ?_⟩
        · rw [upd_ne (ne_of_none h hD0)]
          exact (EJ.trans E2) b o n h
        · obtain ⟨x1, x2, x3, x4⟩ := R2
          exact ⟨x1, x2, by rw [upd_ne nrD]; exact x3, x4⟩
        · rw [upd_same, List.map_append]
          rfl
        · rcases List.mem_append.mp z with z | z
          · exact hy y z
          · rw [List.mem_singleton.mp z]
            exact TOk.one (letOk c hm)
    · rintro J ⟨EJ, RJ, ys, hJ, hl, hy⟩
      have jo := (TOk.join ys hy)
      rw [hl] at jo
      have jo2 : TOk 10 (Txt.join "" ys) := by
        rw [TL.join_eq]
        exact jo.mono (by omega)
      have su : (ys.map (·.length)).sum ≤ ys.length := sum_one ys fun y hy' => (hy y hy').1
      refine ⟨_, D, ys, rfl, rfl, .inl (SqL.of hJ), by simp only [show (Str.ofString "").length = 0 from by decide]; omega, ?_⟩
      generalize Txt.join "" ys = z at jo2
      refine ⟨_, rfl, r, _, rfl, RJ, by decide, by decide, fun e J2 E2 R2 e0 e1 => ?_⟩
      refine ⟨_, _, rfl, rfl, _, rfl, ?_⟩
      refine ite2 (fun _ => ?_) (fun _ => ?_)
      · exact ⟨_, rfl, q z J2 (EJ.trans E2) R2 (jo2.mono (by decide))⟩
      · have zl : z.length ≤ sizeLine := Nat.le_trans jo2.1 (by decide)
        have z10 := jo2.1
        refine ⟨_, rfl, _, rfl, _, rfl, zl, _, _, rfl, rfl, r, _, rfl, R2, by omega, by omega, fun g J3 E3 R3 g0 g1 => ?_⟩
        refine ⟨_, rfl, r, _, rfl, R3, by decide, by decide, fun k J4 E4 R4 k0 k1 => ?_⟩
        obtain ⟨c, hc, hm⟩ := at_mem (xs := SGN.cps.toList) k0 (by rw [sgnLen]; exact k1)
        refine ⟨_, _, c, rfl, rfl, by decide +kernel, hc, _, _, rfl, ?_⟩
        have c1 := TOk.one (sgnOk c hm)
        refine ⟨_, rfl, _, rfl, _, rfl, z, rfl, zl, _, rfl, _, _, rfl, rfl, ?_, ?_⟩
        · have a1 := (jo2.cut none (some g)).1
          have a2 := c1.1
          rw [sizeLine_eq]
          omega
        · refine ⟨_, rfl, _, rfl, _, rfl, r, _, rfl, R4, by decide, by decide, fun m J5 E5 R5 m0 m1 => ?_⟩
          refine ⟨_, _, rfl, rfl, _, rfl, z, rfl, zl, _, _, rfl, rfl, ?_, ?_⟩
          · have a1 := ((jo2.cut none (some g)).app c1).1
            have a2 := (jo2.cut (some (g + m)) none).1
            rw [sizeLine_eq]
            omega
          · exact q _ _ ((((EJ.trans E2).trans E3).trans E4).trans E5) R5 ((((jo2.cut none (some g)).app c1).app (jo2.cut (some (g + m)) none)).mono (by decide))
end
end N1
namespace N1
open PySem L2 G
theorem hide_new {r p : Addr} {J : Hp} {o : HO} (h : J p = none) : Same (hide r J) (hide r (upd J p o)) := by
  intro b u e
  unfold hide at e ⊢
  split
  · rename_i z
    rw [if_pos z] at e
    cases e
  · rename_i z
    rw [if_neg z] at e
    rw [upd_ne (ne_of_none e h)]
    exact e
theorem hide_ext {r : Addr} {J J' : Hp} (h : Ext r J J') : Same (hide r J) J' := by
  intro b u e
  unfold hide at e
  split at e
  · cases e
  · rename_i z
    exact h b u z e
theorem new_same {p : Addr} {J : Hp} {o : HO} (h : J p = none) : Same J (upd J p o) :=
  fun b u e => by rw [upd_ne (ne_of_none e h)]; exact e
theorem stp {r p : Addr} {J : Hp} {o : HO} (R : Rng J r) (h : J p = none) : ∃ J' : Hp, upd J p o = J' ∧
    Same J J' ∧ Same (hide r J) (hide r J') ∧ Rng J' r ∧ J' p = some o ∧ hide r J' p = some o :=
  ⟨_, rfl, new_same h, hide_new h, R.new h, upd_same, hide_get (R.free h).symm upd_same⟩
theorem merge1 (k : Key) (v : V) : mergeK [] [(k, v)] = [(k, v)] := rfl
def okB (d : PyData) : Bool :=
  d.showable && d.leavesShort 600 && decide (d.weight ≤ 20000) && decide (d.depth ≤ 60)
theorem okd {d : PyData} (h : okB d = true) : OkD d := by
  simp only [okB, Bool.and_eq_true, decide_eq_true_eq] at h
  exact ⟨h.1.1.1, h.1.1.2, h.1.2, h.2⟩
/-- some data stands there that can be shown -/
def Gd (H : Hp) (v : V) : Prop := ∃ d, Da H v d ∧ OkD d ∧ Short d
def spOdd : Sp := fun vs H Q _ => ∃ r : Addr, vs = [.ref r] ∧ Rng H r ∧
  ∀ (v : V) (H' : Hp) (d : PyData), Ext r H H' → Rng H' r → Da H' v d → OkD d → Short d → Q v H'
theorem e59 : (10 : Int) ^ (59 : Int).toNat = 100000000000000000000000000000000000000000000000000000000000 := by decide +kernel
theorem e60 : (10 : Int) ^ (60 : Int).toNat = 1000000000000000000000000000000000000000000000000000000000000 := by decide +kernel
theorem e20 : (10 : Int) ^ (20 : Int).toNat = 100000000000000000000 := by decide +kernel

section
variable {P : Program} {w : World} {K : PySem.W.Frag} {mg : Str → Option Value} {base : Heap}
theorem scU : FnScope ["_law_rng_here", "_law_found"] ["_law_rng_here"] (defScope sNumber) :=
  ⟨rfl, rfl, rfl, by decide +kernel, rfl, by decide +kernel, by decide +kernel⟩
theorem ok_num {f fD : Addr} {fd fdD : FuncData} (F : Fun K "_law_number" "_law_number" sNumber f fd) (T : Txt mg)
    (D : Fun K "_law_draw" "_law_draw" sDraw fD fdD) (bD : Binds K fdD ["_law_rng_here", "_law_many"] []) (gD : mg "_law_draw" = some (.ref fD)) :
    FnOk P w K mg base CX0 2 f fd ["_law_rng_here"] spNum := by
  have GD : FnOk P w K mg base CX0 1 fD fdD ["_law_rng_here", "_law_many"] spDraw := ok_draw D T
  refine F.ok scU (fun vs H Q E h => ?_) (fun cdv A outer s H vs Q E hr1 h => ?_)
  · obtain ⟨r, rfl, _⟩ := h
    rfl
  · obtain ⟨r, rfl, R, q⟩ := h
    refine ⟨_, pss_cons (ps_set (i := 1) scU.nd rfl (Or.inl rfl) (pe_ix ix_list (pe_lst (pa_cons pe_int (pa_cons pe_int (pa_cons (pe_call GD hr1 (by rfl) gD D.kp bD .nil pass0 (pa_cons (pv 0) (pa_cons pe_int pa_nil)))
          (pa_cons (pe_op op_add (pe_op op_pow pe_int pe_int) (pe_call GD hr1 (by rfl) gD D.kp bD .nil pass0 (pa_cons (pv 0) (pa_cons (pe_op op_pow pe_int pe_int) pa_nil)))) (pa_cons (pe_op op_sub (pe_op op_pow pe_int pe_int) pe_int) pa_nil)))))) (pe_call GD hr1 (by rfl) gD D.kp bD .nil pass0 (pa_cons (pv 0) (pa_cons pe_int pa_nil))) (fun _ _ => rfl)))
      (pss_one (ps_ret (pe_op op_mul (pv 1) (pe_ix ix_list (pe_lst (pa_cons pe_int (pa_cons (pe_un un_neg pe_int) pa_nil))) (pe_call GD hr1 (by rfl) gD D.kp bD .nil pass0 (pa_cons (pv 0) (pa_cons pe_int pa_nil))) (fun _ _ => rfl))))), ?_⟩
    refine ⟨_, rfl, r, _, rfl, R, by decide, by decide, fun d1 H1 E1 R1 a0 a1 => ?_⟩
    refine ⟨_, _, rfl, rfl, ⟨by decide, by decide, by decide⟩, _, rfl, _, _, rfl, rfl, ⟨by decide, by decide, by decide⟩, r, _, rfl, R1, ?_, ?_, fun d2 H2 E2 R2 b0 b1 => ?_⟩
    · rw [e20]; decide
    · rw [e20]; decide
    refine ⟨_, _, rfl, rfl, _, _, rfl, rfl, ⟨by decide, by decide, by decide⟩, _, _, rfl, rfl, (by show 5 ≤ sizeLine; decide), fun p hp => ?_⟩
    have nrp : r ≠ p := R2.free hp
    refine ⟨_, rfl, r, _, rfl, R2.new hp, by decide, by decide, fun d3 H3 E3 R3 c0 c1 => ?_⟩
    have hp3 := E3 _ _ nrp.symm upd_same
    obtain ⟨v, hv, hm⟩ := at_mem (xs := [V.int 0, V.int 1, V.int d1, V.int ((10 : Int) ^ (59 : Int).toNat + d2), V.int ((10 : Int) ^ (60 : Int).toNat - 1)]) c0 (by show d3 < 5; omega)
    have hb : ∃ i : Int, v = .int i ∧ i.natAbs < 10 ^ 61 := by
      rw [e59, e60] at hm
      rw [e20] at b1
      simp only [List.mem_cons, List.not_mem_nil, or_false] at hm
      rcases hm with rfl | rfl | rfl | rfl | rfl
      · exact ⟨_, rfl, by decide⟩
      · exact ⟨_, rfl, by decide⟩
      · exact ⟨_, rfl, by omega⟩
      · exact ⟨_, rfl, by omega⟩
      · exact ⟨_, rfl, by decide⟩
    obtain ⟨i, rfl, hi⟩ := hb
    refine ⟨p, _, _, _, rfl, rfl, SqL.of hp3, hv, ?_⟩
    refine ⟨_, rfl, _, rfl, (by show 2 ≤ sizeLine; decide), fun p2 hp2 => ?_⟩
    have nrp2 : r ≠ p2 := R3.free hp2
    refine ⟨_, rfl, r, _, rfl, R3.new hp2, by decide, by decide, fun d4 H4 E4 R4 g0 g1 => ?_⟩
    have hp4 := E4 _ _ nrp2.symm upd_same
    have ex : Ext r H H4 := ((((E1.trans E2).trans (Ext.new hp)).trans E3).trans (Ext.new hp2)).trans E4
    obtain ⟨u, hu, hm2⟩ := at_mem (xs := [V.int 1, V.int (-1)]) g0 (by show d4 < 2; omega)
    simp only [List.mem_cons, List.not_mem_nil, or_false] at hm2
    rcases hm2 with rfl | rfl
    · refine ⟨p2, _, _, _, rfl, rfl, SqL.of hp4, hu, _, _, rfl, rfl, .inr ⟨by decide, by decide⟩, ?_⟩
      exact q _ _ ex R4 (by rw [Int.mul_one]; exact hi)
    · refine ⟨p2, _, _, _, rfl, rfl, SqL.of hp4, hu, _, _, rfl, rfl, .inr ⟨by decide, by decide⟩, ?_⟩
      exact q _ _ ex R4 (by rw [Int.natAbs_mul]; simpa using hi)

theorem scO : FnScope ["_law_rng_here", "_law_some"] ["_law_rng_here"] (defScope sOdd) :=
  ⟨rfl, rfl, rfl, by decide +kernel, rfl, by decide +kernel, by decide +kernel⟩
theorem ok_odd {f fC fD : Addr} {fd fdC fdD : FuncData} (F : Fun K "_law_odd" "_law_odd" sOdd f fd) (T : Txt mg)
    (D : Fun K "_law_draw" "_law_draw" sDraw fD fdD) (bD : Binds K fdD ["_law_rng_here", "_law_many"] []) (gD : mg "_law_draw" = some (.ref fD))
    (C : Fun K "_law_choice" "_law_choice" sChoice fC fdC) (bC : Binds K fdC ["_law_rng_here", "_law_options"] []) (gC : mg "_law_choice" = some (.ref fC)) :
    FnOk P w K mg base CX0 3 f fd ["_law_rng_here"] spOdd := by
  have GC : FnOk P w K mg base CX0 2 fC fdC ["_law_rng_here", "_law_options"] (spChoice K) := ok_choice C T D bD gD
  refine F.ok scO (fun vs H Q E h => ?_) (fun cdv A outer s H vs Q E hr1 h => ?_)
  · obtain ⟨r, rfl, _⟩ := h
    rfl
  · obtain ⟨r, rfl, R0, q⟩ := h
    refine ⟨_, pss_cons (ps_set (i := 1) scO.nd rfl (Or.inl rfl) (pe_lst (pa_cons pe_non (pa_cons pe_bl (pa_cons pe_bl (pa_cons pe_str (pa_cons (pe_lstS pa_nil) (pa_cons (pe_tup pa_nil) (pa_cons pe_dnewK (pa_cons (pe_lstS (pa_cons pe_int pa_nil)) (pa_cons (pe_tup (pa_cons pe_int pa_nil)) (pa_cons (pe_disp (pps_cons pe_int pe_int pps_nil) (by rfl) (by rfl) (fun z => by cases z) (by decide)) (pa_cons (pe_lstS (pa_cons pe_str pa_nil)) (pa_cons (pe_tup (pa_cons pe_str pa_nil)) (pa_cons (pe_disp (pps_cons pe_str pe_int pps_nil) (by rfl) (by rfl) (fun z => by cases z) (by decide)) (pa_cons (pe_lstS (pa_cons (pe_lstS pa_nil) pa_nil)) (pa_cons (pe_tup (pa_cons (pe_tup pa_nil) pa_nil)) (pa_cons (pe_lstS (pa_cons pe_non pa_nil)) (pa_cons pe_str pa_nil)))))))))))))))))))
      (pss_one (ps_ret (pe_call GC hr1 (by rfl) gC C.kp bC .nil pass0 (pa_cons (pv 0) (pa_cons (pe_op op_cat (pv 1) (pe_lst (pa_cons pe_str (pa_cons pe_str (pa_cons pe_str (pa_cons (pe_tup (pa_cons pe_str (pa_cons pe_int pa_nil))) (pa_cons (pe_lstS (pa_cons pe_bl pa_nil)) (pa_cons (pe_tup (pa_cons pe_non pa_nil)) (pa_cons pe_str (pa_cons pe_str (pa_cons pe_str pa_nil))))))))))) pa_nil))))), ?_⟩
    refine ⟨(by show 0 ≤ sizeLine; decide), fun p1 hp1 np1 => ?_⟩
    obtain ⟨J1, j1, S1, U1, R1, k1, g1⟩ := stp (o := .lst ([] : List V)) R0 hp1
    rw [j1]
    have dp1 : Da (hide r J1) (.ref p1) (.list []) := Da.lst np1 g1 .nil
    refine ⟨(by show 0 ≤ sizeLine; decide), fun p2 hp2 => ?_⟩
    obtain ⟨J2, j2, S2, U2, R2, k2, g2⟩ := stp (o := .tup ([] : List V)) R1 hp2
    rw [j2]
    have dp2 : Da (hide r J2) (.ref p2) (.tuple []) := Da.tup g2 .nil
    refine fun p3 hp3 => ?_
    obtain ⟨J3, j3, S3, U3, R3, k3, g3⟩ := stp (o := .dK ([] : List (Key × V))) R2 hp3
    rw [j3]
    have dp3 : Da (hide r J3) (.ref p3) (.dict []) := Da.dic g3 .nil
    refine ⟨(by show 1 ≤ sizeLine; decide), fun p4 hp4 np4 => ?_⟩
    obtain ⟨J4, j4, S4, U4, R4, k4, g4⟩ := stp (o := .lst ([.int 0] : List V)) R3 hp4
    rw [j4]
    have dp4 : Da (hide r J4) (.ref p4) (.list [.int 0]) := Da.lst np4 g4 (.cons (.int _) .nil)
    refine ⟨(by show 1 ≤ sizeLine; decide), fun p5 hp5 => ?_⟩
    obtain ⟨J5, j5, S5, U5, R5, k5, g5⟩ := stp (o := .tup ([.int 0] : List V)) R4 hp5
    rw [j5]
    have dp5 : Da (hide r J5) (.ref p5) (.tuple [.int 0]) := Da.tup g5 (.cons (.int _) .nil)
    refine fun p6 hp6 => ?_
    refine ⟨upd_same, ([(Sum.inl 0, .int 0)] : List (Key × V)), rfl, by decide, ?_⟩
    rw [upd_upd, merge1]
    obtain ⟨J6, j6, S6, U6, R6, k6, g6⟩ := stp (o := .dK ([(Sum.inl 0, .int 0)] : List (Key × V))) R5 hp6
    rw [j6]
    have dp6 : Da (hide r J6) (.ref p6) (.dict [(.int 0, .int 0)]) := Da.dic g6 (.cons (.int _) .nil)
    refine ⟨(by show 1 ≤ sizeLine; decide), fun p7 hp7 np7 => ?_⟩
    obtain ⟨J7, j7, S7, U7, R7, k7, g7⟩ := stp (o := .lst ([.str "a"] : List V)) R6 hp7
    rw [j7]
    have dp7 : Da (hide r J7) (.ref p7) (.list [.str "a"]) := Da.lst np7 g7 (.cons (.str _) .nil)
    refine ⟨(by show 1 ≤ sizeLine; decide), fun p8 hp8 => ?_⟩
    obtain ⟨J8, j8, S8, U8, R8, k8, g8⟩ := stp (o := .tup ([.str "a"] : List V)) R7 hp8
    rw [j8]
    have dp8 : Da (hide r J8) (.ref p8) (.tuple [.str "a"]) := Da.tup g8 (.cons (.str _) .nil)
    refine fun p9 hp9 => ?_
    refine ⟨upd_same, ([(Sum.inr "a", .int 1)] : List (Key × V)), rfl, by decide, ?_⟩
    rw [upd_upd, merge1]
    obtain ⟨J9, j9, S9, U9, R9, k9, g9⟩ := stp (o := .dK ([(Sum.inr "a", .int 1)] : List (Key × V))) R8 hp9
    rw [j9]
    have dp9 : Da (hide r J9) (.ref p9) (.dict [(.str "a", .int 1)]) := Da.dic g9 (.cons (.int _) .nil)
    refine ⟨(by show 0 ≤ sizeLine; decide), fun p10 hp10 np10 => ?_⟩
    obtain ⟨J10, j10, S10, U10, R10, k10, g10⟩ := stp (o := .lst ([] : List V)) R9 hp10
    rw [j10]
    have dp10 : Da (hide r J10) (.ref p10) (.list []) := Da.lst np10 g10 .nil
    refine ⟨(by show 1 ≤ sizeLine; decide), fun p11 hp11 np11 => ?_⟩
    obtain ⟨J11, j11, S11, U11, R11, k11, g11⟩ := stp (o := .lst ([.ref p10] : List V)) R10 hp11
    rw [j11]
    have dp11 : Da (hide r J11) (.ref p11) (.list [.list []]) := Da.lst np11 g11 (.cons (dp10.mono U11) .nil)
    refine ⟨(by show 0 ≤ sizeLine; decide), fun p12 hp12 => ?_⟩
    obtain ⟨J12, j12, S12, U12, R12, k12, g12⟩ := stp (o := .tup ([] : List V)) R11 hp12
    rw [j12]
    have dp12 : Da (hide r J12) (.ref p12) (.tuple []) := Da.tup g12 .nil
    refine ⟨(by show 1 ≤ sizeLine; decide), fun p13 hp13 => ?_⟩
    obtain ⟨J13, j13, S13, U13, R13, k13, g13⟩ := stp (o := .tup ([.ref p12] : List V)) R12 hp13
    rw [j13]
    have dp13 : Da (hide r J13) (.ref p13) (.tuple [.tuple []]) := Da.tup g13 (.cons (dp12.mono U13) .nil)
    refine ⟨(by show 1 ≤ sizeLine; decide), fun p14 hp14 np14 => ?_⟩
    obtain ⟨J14, j14, S14, U14, R14, k14, g14⟩ := stp (o := .lst ([.non] : List V)) R13 hp14
    rw [j14]
    have dp14 : Da (hide r J14) (.ref p14) (.list [.none]) := Da.lst np14 g14 (.cons (.non) .nil)
    refine ⟨(by show 17 ≤ sizeLine; decide), fun p15 hp15 => ?_⟩
    obtain ⟨J15, j15, S15, U15, R15, k15, g15⟩ := stp (o := .lst ([.non, .bl true, .bl false, .str "", .ref p1, .ref p2, .ref p3, .ref p4, .ref p5, .ref p6, .ref p7, .ref p8, .ref p9, .ref p11, .ref p13, .ref p14, .str "1"] : List V)) R14 hp15
    rw [j15]
    refine ⟨_, rfl, _, rfl, ?_⟩
    refine ⟨(by show 2 ≤ sizeLine; decide), fun p16 hp16 => ?_⟩
    obtain ⟨J16, j16, S16, U16, R16, k16, g16⟩ := stp (o := .tup ([.str "a", .int 1] : List V)) R15 hp16
    rw [j16]
    have dp16 : Da (hide r J16) (.ref p16) (.tuple [.str "a", .int 1]) := Da.tup g16 (.cons (.str _) (.cons (.int _) .nil))
    refine ⟨(by show 1 ≤ sizeLine; decide), fun p17 hp17 np17 => ?_⟩
    obtain ⟨J17, j17, S17, U17, R17, k17, g17⟩ := stp (o := .lst ([.bl true] : List V)) R16 hp17
    rw [j17]
    have dp17 : Da (hide r J17) (.ref p17) (.list [.bool true]) := Da.lst np17 g17 (.cons (.bl _) .nil)
    refine ⟨(by show 1 ≤ sizeLine; decide), fun p18 hp18 => ?_⟩
    obtain ⟨J18, j18, S18, U18, R18, k18, g18⟩ := stp (o := .tup ([.non] : List V)) R17 hp18
    rw [j18]
    have dp18 : Da (hide r J18) (.ref p18) (.tuple [.none]) := Da.tup g18 (.cons (.non) .nil)
    refine ⟨(by show 9 ≤ sizeLine; decide), fun p19 hp19 => ?_⟩
    obtain ⟨J19, j19, S19, U19, R19, k19, g19⟩ := stp (o := .lst ([.str "0", .str " a", .str "a ", .ref p16, .ref p17, .ref p18, .str "a\n", .str "\n", .str "ninechars"] : List V)) R18 hp19
    rw [j19]
    refine ⟨p15, p19, _, _, rfl, rfl, (S16.trans (S17.trans (S18.trans (S19)))) _ _ k15, k19, (by show 26 ≤ sizeLine; decide), fun p20 hp20 => ?_⟩
    obtain ⟨J20, j20, S20, U20, R20, k20, g20⟩ := stp (o := .lst ([.non, .bl true, .bl false, .str "", .ref p1, .ref p2, .ref p3, .ref p4, .ref p5, .ref p6, .ref p7, .ref p8, .ref p9, .ref p11, .ref p13, .ref p14, .str "1"] ++ [.str "0", .str " a", .str "a ", .ref p16, .ref p17, .ref p18, .str "a\n", .str "\n", .str "ninechars"] : List V)) R19 hp20
    rw [j20]
    have L19 := U20
    have L18 := U19.trans L19
    have L17 := U18.trans L18
    have L16 := U17.trans L17
    have L15 := U16.trans L16
    have L14 := U15.trans L15
    have L13 := U14.trans L14
    have L12 := U13.trans L13
    have L11 := U12.trans L12
    have L10 := U11.trans L11
    have L9 := U10.trans L10
    have L8 := U9.trans L9
    have L7 := U8.trans L8
    have L6 := U7.trans L7
    have L5 := U6.trans L6
    have L4 := U5.trans L5
    have L3 := U4.trans L4
    have L2 := U3.trans L3
    have L1 := U2.trans L2
    have gd1 : ∀ v ∈ ([.non, .bl true, .bl false, .str "", .ref p1, .ref p2, .ref p3, .ref p4, .ref p5, .ref p6, .ref p7, .ref p8, .ref p9, .ref p11, .ref p13, .ref p14, .str "1"] : List V), Gd (hide r J20) v := (List.forall_mem_cons.2 ⟨⟨.none, .non, okd (by decide +kernel), (fun z e => by cases e)⟩,
        (List.forall_mem_cons.2 ⟨⟨.bool true, .bl _, okd (by decide +kernel), (fun z e => by cases e)⟩,
        (List.forall_mem_cons.2 ⟨⟨.bool false, .bl _, okd (by decide +kernel), (fun z e => by cases e)⟩,
        (List.forall_mem_cons.2 ⟨⟨.str "", .str _, okd (by decide +kernel), (fun z e => by cases e; exact ⟨by decide +kernel, by decide +kernel⟩)⟩,
        (List.forall_mem_cons.2 ⟨⟨.list [], dp1.mono L1, okd (by decide +kernel), (fun z e => by cases e)⟩,
        (List.forall_mem_cons.2 ⟨⟨.tuple [], dp2.mono L2, okd (by decide +kernel), (fun z e => by cases e)⟩,
        (List.forall_mem_cons.2 ⟨⟨.dict [], dp3.mono L3, okd (by decide +kernel), (fun z e => by cases e)⟩,
        (List.forall_mem_cons.2 ⟨⟨.list [.int 0], dp4.mono L4, okd (by decide +kernel), (fun z e => by cases e)⟩,
        (List.forall_mem_cons.2 ⟨⟨.tuple [.int 0], dp5.mono L5, okd (by decide +kernel), (fun z e => by cases e)⟩,
        (List.forall_mem_cons.2 ⟨⟨.dict [(.int 0, .int 0)], dp6.mono L6, okd (by decide +kernel), (fun z e => by cases e)⟩,
        (List.forall_mem_cons.2 ⟨⟨.list [.str "a"], dp7.mono L7, okd (by decide +kernel), (fun z e => by cases e)⟩,
        (List.forall_mem_cons.2 ⟨⟨.tuple [.str "a"], dp8.mono L8, okd (by decide +kernel), (fun z e => by cases e)⟩,
        (List.forall_mem_cons.2 ⟨⟨.dict [(.str "a", .int 1)], dp9.mono L9, okd (by decide +kernel), (fun z e => by cases e)⟩,
        (List.forall_mem_cons.2 ⟨⟨.list [.list []], dp11.mono L11, okd (by decide +kernel), (fun z e => by cases e)⟩,
        (List.forall_mem_cons.2 ⟨⟨.tuple [.tuple []], dp13.mono L13, okd (by decide +kernel), (fun z e => by cases e)⟩,
        (List.forall_mem_cons.2 ⟨⟨.list [.none], dp14.mono L14, okd (by decide +kernel), (fun z e => by cases e)⟩,
        (List.forall_mem_cons.2 ⟨⟨.str "1", .str _, okd (by decide +kernel), (fun z e => by cases e; exact ⟨by decide +kernel, by decide +kernel⟩)⟩,
        (fun v hv => by cases hv)⟩)⟩)⟩)⟩)⟩)⟩)⟩)⟩)⟩)⟩)⟩)⟩)⟩)⟩)⟩)⟩)⟩)
    have gd2 : ∀ v ∈ ([.str "0", .str " a", .str "a ", .ref p16, .ref p17, .ref p18, .str "a\n", .str "\n", .str "ninechars"] : List V), Gd (hide r J20) v := (List.forall_mem_cons.2 ⟨⟨.str "0", .str _, okd (by decide +kernel), (fun z e => by cases e; exact ⟨by decide +kernel, by decide +kernel⟩)⟩,
        (List.forall_mem_cons.2 ⟨⟨.str " a", .str _, okd (by decide +kernel), (fun z e => by cases e; exact ⟨by decide +kernel, by decide +kernel⟩)⟩,
        (List.forall_mem_cons.2 ⟨⟨.str "a ", .str _, okd (by decide +kernel), (fun z e => by cases e; exact ⟨by decide +kernel, by decide +kernel⟩)⟩,
        (List.forall_mem_cons.2 ⟨⟨.tuple [.str "a", .int 1], dp16.mono L16, okd (by decide +kernel), (fun z e => by cases e)⟩,
        (List.forall_mem_cons.2 ⟨⟨.list [.bool true], dp17.mono L17, okd (by decide +kernel), (fun z e => by cases e)⟩,
        (List.forall_mem_cons.2 ⟨⟨.tuple [.none], dp18.mono L18, okd (by decide +kernel), (fun z e => by cases e)⟩,
        (List.forall_mem_cons.2 ⟨⟨.str "a\n", .str _, okd (by decide +kernel), (fun z e => by cases e; exact ⟨by decide +kernel, by decide +kernel⟩)⟩,
        (List.forall_mem_cons.2 ⟨⟨.str "\n", .str _, okd (by decide +kernel), (fun z e => by cases e; exact ⟨by decide +kernel, by decide +kernel⟩)⟩,
        (List.forall_mem_cons.2 ⟨⟨.str "ninechars", .str _, okd (by decide +kernel), (fun z e => by cases e; exact ⟨by decide +kernel, by decide +kernel⟩)⟩,
        (fun v hv => by cases hv)⟩)⟩)⟩)⟩)⟩)⟩)⟩)⟩)⟩)
    refine ⟨r, p20, _, rfl, R20, SqL.of k20, (R19.free hp20).symm, (by show 0 < 26; decide), (by show 26 ≤ 1000; decide), fun v H2 E2 RR hv => ?_⟩
    have eS : Same H J20 := S1.trans (S2.trans (S3.trans (S4.trans (S5.trans (S6.trans (S7.trans (S8.trans (S9.trans (S10.trans (S11.trans (S12.trans (S13.trans (S14.trans (S15.trans (S16.trans (S17.trans (S18.trans (S19.trans (S20)))))))))))))))))))
    have ex : Ext r H H2 := fun b o n h => E2 b o n (eS b o h)
    have gd : Gd (hide r J20) v := (List.mem_append.mp hv).elim (gd1 v) (gd2 v)
    obtain ⟨d, e1, e2, e3⟩ := gd
    exact q v H2 d ex RR (e1.mono (hide_ext E2)) e2 e3
end
end N1
namespace N1
open PySem L2 G
theorem ok2 (a b : Bool) : OkD (.list [.bool a, .bool b]) := by
  cases a <;> cases b <;> exact okd (by decide +kernel)
def spRight : Sp := fun vs H Q _ => ∃ (v : V) (d : PyData), vs = [v] ∧ Da H v d ∧ OkD d ∧ Short d ∧
  ∀ H' : Hp, Same H H' → Q (.bl true) H'
def spLaw (K : PySem.W.Frag) : Sp := fun vs H Q _ => ∃ (a : Addr) (ns : List Int), vs = [.ref a] ∧
  SqL K H a (ns.map V.int) ∧ ns.length ≤ 63 ∧ ∀ H', Q (.bl true) H'
theorem gdStr {H : Hp} {z : Str} (t : TOk 1000 z) : Gd H (.str z) := by
  refine ⟨.str z, .str z, ⟨rfl, ?_, ?_, Nat.zero_le _⟩, fun y e => by cases e; exact ⟨t.1, t.2⟩⟩
  · simp only [PyData.leavesShort, List.all_eq_true, decide_eq_true_eq]
    intro c hc
    exact Nat.lt_trans (t.2 c hc) (by decide)
  · have e : z.cps.size ≤ 1000 := t.1
    simp only [PyData.weight]
    omega
theorem gdInt {H : Hp} {i : Int} (t : i.natAbs < 10 ^ 61) : Gd H (.int i) := by
  have lg : i.natAbs.log2 < 203 := PySem.Flt.log2_lt_of (by decide) (Nat.lt_trans t (by decide))
  refine ⟨.int i, .int i, ⟨?_, ?_, ?_, Nat.zero_le _⟩, fun y e => by cases e⟩
  · simp only [PyData.showable, decide_eq_true_eq]
    omega
  · simp only [PyData.leavesShort, decide_eq_true_eq]
    have e := int_text_length_le10 (k := 61) (by decide) t
    show (Str.ofString (toString i)).length ≤ 600
    rw [ofString_length]
    omega
  · simp only [PyData.weight]
    split <;> omega
theorem Gd.mono {H H' : Hp} {v : V} (e : Same H H') (g : Gd H v) : Gd H' v := by
  obtain ⟨d, h1, h2, h3⟩ := g
  exact ⟨d, h1.mono e, h2, h3⟩
theorem sq_ext {K : PySem.W.Frag} {r a : Addr} {J0 J : Hp} {xs : List V} (h : SqL K J0 a xs) (n : J0 r = none)
    (e : Ext r J0 J) : SqL K J a xs := by
  rcases h with (h | ⟨o, h⟩) | h
  · exact .inl (.inl (e _ _ (ne_of_none h n) h))
  · exact .inl (.inr ⟨o, e _ _ (ne_of_none h n) h⟩)
  · exact .inr h

section
variable {P : Program} {w : World} {K : PySem.W.Frag} {mg : Str → Option Value} {base : Heap}
theorem scX : FnScope ["_law_value", "_law_kept", "_law_due", "_law_turn"] ["_law_value"] (defScope sRight) :=
  ⟨rfl, rfl, rfl, by decide +kernel, rfl, by decide +kernel, by decide +kernel⟩
theorem ok_right {f f1 f2 f3 f4 : Addr} {fd fd1 fd2 fd3 fd4 : FuncData} (F : Fun K "_law_right" "_law_right" sRight f fd) (T : Txt mg)
    {t1 t2 : Tok} (gL : mg "LETTERS" = some (.str LET t1)) (gM : mg "MOST_LETTERS" = some (.int 8 t2))
    (F1 : Fun K "is_name" "is_name" sIsName f1 fd1) (b1 : Binds K fd1 ["value"] []) (g1 : mg "is_name" = some (.ref f1))
    (F2 : Fun K "is_version" "is_version" sIsVer f2 fd2) (b2 : Binds K fd2 ["value"] []) (g2 : mg "is_version" = some (.ref f2))
    (F3 : Fun K "_law_is_name" "_law_is_name" sLName f3 fd3) (b3 : Binds K fd3 ["_law_value"] []) (g3 : mg "_law_is_name" = some (.ref f3))
    (F4 : Fun K "_law_is_version" "_law_is_version" sLVer f4 fd4) (b4 : Binds K fd4 ["_law_value"] []) (g4 : mg "_law_is_version" = some (.ref f4)) :
    FnG P w K mg base CX0 2 f fd ["_law_value"] spRight := by
  have G1 : FnOk P w K mg base CX0 1 f1 fd1 ["value"] (spIs nameB) := ok_name F1 T gL gM
  have G2 : FnOk P w K mg base CX0 1 f2 fd2 ["value"] (spIs verB) := ok_ver F2 T
  have G3 : FnOk P w K mg base CX0 1 f3 fd3 ["_law_value"] (spIs nameB) := ok_lname F3 T
  have G4 : FnOk P w K mg base CX0 1 f4 fd4 ["_law_value"] (spIs verB) := ok_lver F4 T
  refine okG F scX (fun vs H Q E h => ?_) (fun cdv A outer s H vs Q E gd hr h => ?_)
  · obtain ⟨v, d, rfl, _⟩ := h
    rfl
  · obtain ⟨v, d, rfl, hd, ok, sh, q⟩ := h
    refine ⟨_, pss_cons (ps_par (by rfl) scX.nd (i := 1) (j := 2) rfl rfl (by decide) rfl rfl
        (pa_cons (pe_callB (call_rep gd hr.units) (by rfl) T.repr (by decide +kernel) (pa_cons (pv 0) pa_nil))
          (pa_cons (pe_lstS (pa_cons (pe_call G3 hr (by rfl) g3 F3.kp b3 .nil pass0 (pa_cons (pv 0) pa_nil)) (pa_cons (pe_call G4 hr (by rfl) g4 F4.kp b4 .nil pass0 (pa_cons (pv 0) pa_nil)) pa_nil))) pa_nil)) (by rfl))
      (pss_cons (ps_for PassesOwn.never rfl (pi_range1 (by rfl) T.range (pa_cons pe_int pa_nil)) (pg_name (i := 3) scX.nd rfl (Or.inl rfl))
        (pss_one (ps_if (pt_cmpR op_ne
            (pe_callB (call_rep gd hr.units) (by rfl) T.repr (by decide +kernel) (pa_cons (pe_lstS (pa_cons (pe_call G1 hr (by rfl) g1 F1.kp b1 .nil pass0 (pa_cons (pv 0) pa_nil)) (pa_cons (pe_call G2 hr (by rfl) g2 F2.kp b2 .nil pass0 (pa_cons (pv 0) pa_nil)) pa_nil))) pa_nil))
            (pe_callB (call_rep gd hr.units) (by rfl) T.repr (by decide +kernel) (pa_cons (pv 2) pa_nil)) (nomark _))
          (pss_one (ps_ret pe_bl)) pss_nil)))
      (pss_one (ps_ret (pe_cmpR op_eq (pe_callB (call_rep gd hr.units) (by rfl) T.repr (by decide +kernel) (pa_cons (pv 0) pa_nil)) (pv 1) (nomark _))))), ?_⟩
    refine ⟨_, rfl, _, d, rfl, hd, ok, ?_⟩
    refine ⟨_, rfl, _, d, rfl, hd, sh, fun H1 S1 => ?_⟩
    refine ⟨_, rfl, _, d, rfl, hd.mono S1, sh, fun H2 S2 => ?_⟩
    refine ⟨(by show 2 ≤ sizeLine; decide), fun p hp np => ?_⟩
    refine ⟨_, _, rfl, ?_⟩
    have S3 : Same H (upd H2 p (.lst [.bl (nameB d), .bl (verB d)])) := (S1.trans S2).trans (new_same hp)
    have kp : (upd H2 p (.lst [.bl (nameB d), .bl (verB d)])) p = some (.lst [.bl (nameB d), .bl (verB d)]) := upd_same
    obtain ⟨J, eJ⟩ : ∃ J, upd H2 p (.lst [.bl (nameB d), .bl (verB d)]) = J := ⟨_, rfl⟩
    rw [eJ] at S3 kp
    rw [eJ]
    refine ⟨_, rfl, by decide, by decide, ?_⟩
    refine for_range (lo := 0) (n := 2) (fun i σ J' => ∃ u, σ = [some v, some (.str d.shown), some (.ref p), u] ∧ Same J J') ⟨_, rfl, Same.refl _⟩ ?_ ?_
    · rintro i σ J1 hi ⟨u, rfl, e1⟩
      refine ⟨_, rfl, _, d, rfl, hd.mono (S3.trans e1), sh, fun J2 e2 => ?_⟩
      refine ⟨_, rfl, _, d, rfl, hd.mono ((S3.trans e1).trans e2), sh, fun J3 e3 => ?_⟩
      refine ⟨(by show 2 ≤ sizeLine; decide), fun p2 hp2 np2 => ?_⟩
      refine ⟨_, _, rfl, .lst np2 upd_same (.cons (.bl _) (.cons (.bl _) .nil)), ok2 _ _, ?_⟩
      refine ⟨_, rfl, _, _, rfl, .lst np (((e1.trans e2).trans e3).trans (new_same hp2) _ _ kp) (.cons (.bl _) (.cons (.bl _) .nil)), ok2 _ _, ?_⟩
      refine ⟨rfl, _, rfl, ?_⟩
      rw [decide_eq_true rfl]
      refine iteF ?_
      exact ⟨_, rfl, ((e1.trans e2).trans e3).trans (new_same hp2)⟩
    · rintro σ J1 ⟨u, rfl, e1⟩
      refine ⟨_, rfl, _, d, rfl, hd.mono (S3.trans e1), ok, _, rfl, rfl, ?_⟩
      rw [decide_eq_true rfl]
      exact q J1 (S3.trans e1)

theorem scL : FnScope ["_law_script", "_law_k", "_law_rng_here", "_law_turn", "_law_some", "_law_value"] ["_law_script"] (defScope sLaw) :=
  ⟨rfl, rfl, rfl, by decide +kernel, rfl, by decide +kernel, by decide +kernel⟩
theorem ok_law {f fR fT fU fO fX : Addr} {fd fdR fdT fdU fdO fdX : FuncData} (F : Fun K "law" "law" sLaw f fd) (T : Txt mg)
    (R : FnOk P w K mg base CX0 1 fR fdR ["_law_script", "_law_k"] (spRng K)) (kR : PySem.W.keepIn K (.ref fR) = true) (bR : Binds K fdR ["_law_script", "_law_k"] []) (gR : mg "_law_rng" = some (.ref fR))
    (GT : FnOk P w K mg base CX0 2 fT fdT ["_law_rng_here"] spText) (kT : PySem.W.keepIn K (.ref fT) = true) (bT : Binds K fdT ["_law_rng_here"] []) (gT : mg "_law_text" = some (.ref fT))
    (GU : FnOk P w K mg base CX0 2 fU fdU ["_law_rng_here"] spNum) (kU : PySem.W.keepIn K (.ref fU) = true) (bU : Binds K fdU ["_law_rng_here"] []) (gU : mg "_law_number" = some (.ref fU))
    (GO : FnOk P w K mg base CX0 3 fO fdO ["_law_rng_here"] spOdd) (kO : PySem.W.keepIn K (.ref fO) = true) (bO : Binds K fdO ["_law_rng_here"] []) (gO : mg "_law_odd" = some (.ref fO))
    (GX : FnG P w K mg base CX0 2 fX fdX ["_law_value"] spRight) (kX : PySem.W.keepIn K (.ref fX) = true) (bX : Binds K fdX ["_law_value"] []) (gX : mg "_law_right" = some (.ref fX)) :
    FnG P w K mg base CX0 4 f fd ["_law_script"] (spLaw K) := by
  refine okG F scL (fun vs H Q E h => ?_) (fun cdv A outer s H vs Q E gd hr h => ?_)
  · obtain ⟨a, ns, rfl, _⟩ := h
    rfl
  · obtain ⟨a, ns, rfl, hS, hlen, q⟩ := h
    have hr1 : Room 1 _ := hr.mono (by decide)
    have hr2 : Room 2 _ := hr.mono (by decide)
    refine ⟨_, pss_cons (ps_for PassesOwn.never rfl (pi_range1 (by rfl) T.range (pa_cons
          (pe_callB (call_max2 rfl) (by rfl) T.max (by decide +kernel) (pa_cons pe_int (pa_cons
            (pe_callB (call_min2 rfl) (by rfl) T.min (by decide +kernel) (pa_cons pe_int (pa_cons (pe_callB call_len_seq (by rfl) T.len PySem.boot_len (pa_cons (pv 0) pa_nil)) pa_nil))) pa_nil))) pa_nil))
        (pg_name (i := 1) scL.nd rfl (Or.inl rfl))
        (pss_cons (ps_set (i := 2) scL.nd rfl (Or.inl rfl) (pe_call R hr1 (by rfl) gR kR bR .nil pass0 (pa_cons (pv 0) (pa_cons (pv 1) pa_nil))))
        (pss_one (ps_for PassesOwn.never rfl (pi_range1 (by rfl) T.range (pa_cons pe_int pa_nil)) (pg_name (i := 3) scL.nd rfl (Or.inl rfl))
          (pss_cons (ps_set (i := 4) scL.nd rfl (Or.inl rfl) (pe_lst (pa_cons (pe_call GT hr2 (by rfl) gT kT bT .nil pass0 (pa_cons (pv 2) pa_nil))
            (pa_cons (pe_call GU hr2 (by rfl) gU kU bU .nil pass0 (pa_cons (pv 2) pa_nil)) (pa_cons (pe_call GO hr (by rfl) gO kO bO .nil pass0 (pa_cons (pv 2) pa_nil)) pa_nil)))))
          (pss_one (ps_if (pt_not (pt_val (pe_callB (cr_all rfl) (by rfl) T.all (by decide +kernel) (pa_cons
              (pe_lc (own := [("_law_value", 5)]) (g := gName 5) (tt := tYes) rfl scL.nd (pi_list (pv 4)) (blkOk_by (own := [("_law_value", 5)]) (N := ["_law_script", "_law_k", "_law_rng_here", "_law_turn", "_law_some", "_law_value"]) (sc := defScope sLaw) (by decide +kernel))
                (fun _ _ _ _ _ => pg_name (i := 5) scL.nd rfl (Or.inl rfl)) (fun _ _ _ _ _ => pts_nil) (fun _ _ _ _ _ => pe_callG GX gd hr2 (by rfl) gX kX bX .nil pass0 (pa_cons (pv 5) pa_nil))) pa_nil))))
            (pss_one (ps_ret pe_bl)) pss_nil)))))))
      (pss_one (ps_ret pe_bl)), ?_⟩
    have hN : ∀ L : Int, 0 ≤ L → 0 ≤ (if (if L < 10 then L else 10) > 3 then (if L < 10 then L else 10) else 3) ∧
        (if (if L < 10 then L else 10) > 3 then (if L < 10 then L else 10) else 3) ≤ 10 := by
      intro L hL
      by_cases h1 : L < 10
      · rw [if_pos h1]
        split <;> omega
      · rw [if_neg h1]
        decide
    have hN2 := hN ((ns.map V.int).length : Nat) (by omega)
    refine ⟨_, rfl, a, _, rfl, .inl hS, _, _, rfl, _, _, rfl, _, rfl, by omega, by omega, ?_⟩
    generalize (if (if ((ns.map V.int).length : Int) < 10 then ((ns.map V.int).length : Int) else 10) > 3 then (if ((ns.map V.int).length : Int) < 10 then ((ns.map V.int).length : Int) else 10) else 3) = n at hN2
    refine for_range (lo := 0) (n := n.toNat) (fun i σ J => ∃ c1 c2 c3 c4 c5, σ = [some (.ref a), c1, c2, c3, c4, c5] ∧ SqL K J a (ns.map V.int)) ⟨_, _, _, _, _, rfl, hS⟩ ?_ ?_
    · rintro i σ J0 hi ⟨c1, c2, c3, c4, c5, rfl, hS0⟩
      refine ⟨_, rfl, _, rfl, a, ns, _, rfl, hS0, by omega, by omega, fun r J1 fr S1 R1 => ?_⟩
      refine ⟨_, rfl, by decide, by decide, ?_⟩
      refine for_range (lo := 0) (n := 3) (fun i σ J => ∃ k c3 c4 c5, σ = [some (.ref a), k, some (.ref r), c3, c4, c5] ∧ Ext r J0 J ∧ Rng J r) ⟨_, _, _, _, rfl, fun b o _ h => S1 b o h, R1⟩ ?_ ?_
      · rintro j σ J2 hj ⟨k, c3, c4, c5, rfl, E2, R2⟩
        refine ⟨_, rfl, r, rfl, R2, fun z J3 E3 R3 tz => ?_⟩
        refine ⟨_, rfl, r, rfl, R3, fun i4 J4 E4 R4 ti => ?_⟩
        refine ⟨_, rfl, r, rfl, R4, fun v J5 d E5 R5 dv ok sh => ?_⟩
        refine ⟨(by show 3 ≤ sizeLine; decide), fun p hp => ?_⟩
        have gall : ∀ x ∈ [V.str z, V.int i4, v], Gd J5 x :=
          List.forall_mem_cons.2 ⟨gdStr tz, List.forall_mem_cons.2 ⟨gdInt ti, List.forall_mem_cons.2 ⟨⟨d, dv, ok, sh⟩, fun x hx => by cases hx⟩⟩⟩
        have ex : Ext r J0 (upd J5 p (.lst [V.str z, V.int i4, v])) := (((E2.trans E3).trans E4).trans E5).trans (Ext.new hp)
        have S6 : Same J5 (upd J5 p (.lst [V.str z, V.int i4, v])) := new_same hp
        have R6 : Rng (upd J5 p (.lst [V.str z, V.int i4, v])) r := R5.new hp
        have k6 : (upd J5 p (.lst [V.str z, V.int i4, v])) p = some (.lst [V.str z, V.int i4, v]) := upd_same
        obtain ⟨J6, e6⟩ : ∃ J, upd J5 p (.lst [V.str z, V.int i4, v]) = J := ⟨_, rfl⟩
        rw [e6] at ex S6 R6 k6
        rw [e6]
        refine ⟨_, rfl, p, rfl, ⟨_, SqL.of k6⟩, fun D hD => ?_⟩
        refine lc_list (K := K) (a := p) (xs := [V.str z, V.int i4, v]) (fun i J => Same J6 J ∧ J D = some (.lst ((List.replicate i true).map V.bl)))
          ⟨new_same hD, upd_same⟩ (fun i J _ hP => SqL.of (hP.1 _ _ k6)) ?_ ?_
        · rintro m x J7 hx ⟨S7, hD7⟩
          refine ⟨rfl, yesT ?_⟩
          obtain ⟨dx, hdx, okx, shx⟩ := gall x (List.mem_of_getElem? hx)
          refine ⟨_, rfl, _, dx, rfl, hdx.mono (S6.trans S7), okx, shx, fun J8 S8 => ?_⟩
          refine ⟨_, S8 _ _ hD7, ?_, ?_, ?_⟩
          · have hm := (List.getElem?_eq_some_iff.mp hx).1
            have hm2 : m < 3 := hm
            simp only [List.length_map, List.length_replicate]
            rw [sizeLine_eq]
            omega
          · intro b o e
            rw [upd_ne (ne_of_none e hD)]
            exact S8 _ _ (S7 b o e)
          · rw [upd_same, List.replicate_succ', List.map_append]
            rfl
        · rintro J7 ⟨S7, hD7⟩
          refine ⟨D, _, rfl, SqL.of hD7, _, rfl, ?_⟩
          refine iteF ?_
          refine ⟨_, _, _, _, rfl, fun b o n h => S7 _ _ (ex b o n h), ?_⟩
          obtain ⟨x1, x2, x3, x4⟩ := R6
          exact ⟨x1, x2, S7 _ _ x3, x4⟩
      · rintro σ J2 ⟨k, c3, c4, c5, rfl, E2, R2⟩
        exact ⟨_, _, _, _, _, rfl, sq_ext hS0 fr E2⟩
    · rintro σ J ⟨c1, c2, c3, c4, c5, rfl, _⟩
      exact q J
end
end N1
namespace N1
open PySem L2 G
theorem all_mk {l : PySem.W.OpenLaw} {w : World} {K : PySem.W.Frag} {h : Heap} {mg : Str → Option Value}
    {fa f1 f2 f3 f4 f5 f6 f7 f8 f9 f10 f11 f12 : Addr} {t1 t2 : Tok} (X : K.In h) (gl : h.Ns mainGlobals mg) (hfa : mg "law" = some (.ref fa))
    {od1 an1 od2 an2 od3 an3 od4 an4 od5 an5 od6 an6 od7 an7 od8 an8 od9 an9 od10 an10 od11 an11 od12 an12 : Option Addr} {sl1 sl2 sl3 sl4 sl5 sl6 sl7 sl8 sl9 sl10 sl11 sl12 : Array (Option Value)}
    {oc1 kV1 dc1 pm1 cd1 ct1 oc2 kV2 dc2 pm2 cd2 ct2 oc3 kV3 dc3 pm3 cd3 ct3 oc4 kV4 dc4 pm4 cd4 ct4 oc5 kV5 dc5 pm5 cd5 ct5 oc6 kV6 dc6 pm6 cd6 ct6 oc7 kV7 dc7 pm7 cd7 ct7 oc8 kV8 dc8 pm8 cd8 ct8 oc9 kV9 dc9 pm9 cd9 ct9 oc10 kV10 dc10 pm10 cd10 ct10 oc11 kV11 dc11 pm11 cd11 ct11 oc12 kV12 dc12 pm12 cd12 ct12 : Value}
    (a1 : PySem.W.nsIn K mainGlobals "is_name" = some (some (.ref f1)))
    (l1 : K.lookup f1 = some ⟨oc1, od1, .func (PySem.W.fnOf "is_name" "is_name" (defArgs sIsName) (defBody sIsName) (defScope sIsName) .none kV1 dc1 pm1 an1 cd1 ct1), sl1⟩)
    (c1 : PySem.W.codeIn K cd1 "is_name" = true) (k1 : PySem.W.keepIn K (.ref f1) = true)
    (a2 : PySem.W.nsIn K mainGlobals "is_version" = some (some (.ref f2)))
    (l2 : K.lookup f2 = some ⟨oc2, od2, .func (PySem.W.fnOf "is_version" "is_version" (defArgs sIsVer) (defBody sIsVer) (defScope sIsVer) .none kV2 dc2 pm2 an2 cd2 ct2), sl2⟩)
    (c2 : PySem.W.codeIn K cd2 "is_version" = true) (k2 : PySem.W.keepIn K (.ref f2) = true)
    (a3 : PySem.W.nsIn K mainGlobals "_law_rng" = some (some (.ref f3)))
    (l3 : K.lookup f3 = some ⟨oc3, od3, .func (PySem.W.fnOf "_law_rng" "_law_rng" (defArgs sRng) (defBody sRng) (defScope sRng) .none kV3 dc3 pm3 an3 cd3 ct3), sl3⟩)
    (c3 : PySem.W.codeIn K cd3 "_law_rng" = true) (k3 : PySem.W.keepIn K (.ref f3) = true)
    (a4 : PySem.W.nsIn K mainGlobals "_law_draw" = some (some (.ref f4)))
    (l4 : K.lookup f4 = some ⟨oc4, od4, .func (PySem.W.fnOf "_law_draw" "_law_draw" (defArgs sDraw) (defBody sDraw) (defScope sDraw) .none kV4 dc4 pm4 an4 cd4 ct4), sl4⟩)
    (c4 : PySem.W.codeIn K cd4 "_law_draw" = true) (k4 : PySem.W.keepIn K (.ref f4) = true)
    (a5 : PySem.W.nsIn K mainGlobals "_law_choice" = some (some (.ref f5)))
    (l5 : K.lookup f5 = some ⟨oc5, od5, .func (PySem.W.fnOf "_law_choice" "_law_choice" (defArgs sChoice) (defBody sChoice) (defScope sChoice) .none kV5 dc5 pm5 an5 cd5 ct5), sl5⟩)
    (c5 : PySem.W.codeIn K cd5 "_law_choice" = true) (k5 : PySem.W.keepIn K (.ref f5) = true)
    (a6 : PySem.W.nsIn K mainGlobals "_law_is_name" = some (some (.ref f6)))
    (l6 : K.lookup f6 = some ⟨oc6, od6, .func (PySem.W.fnOf "_law_is_name" "_law_is_name" (defArgs sLName) (defBody sLName) (defScope sLName) .none kV6 dc6 pm6 an6 cd6 ct6), sl6⟩)
    (c6 : PySem.W.codeIn K cd6 "_law_is_name" = true) (k6 : PySem.W.keepIn K (.ref f6) = true)
    (a7 : PySem.W.nsIn K mainGlobals "_law_is_version" = some (some (.ref f7)))
    (l7 : K.lookup f7 = some ⟨oc7, od7, .func (PySem.W.fnOf "_law_is_version" "_law_is_version" (defArgs sLVer) (defBody sLVer) (defScope sLVer) .none kV7 dc7 pm7 an7 cd7 ct7), sl7⟩)
    (c7 : PySem.W.codeIn K cd7 "_law_is_version" = true) (k7 : PySem.W.keepIn K (.ref f7) = true)
    (a8 : PySem.W.nsIn K mainGlobals "_law_text" = some (some (.ref f8)))
    (l8 : K.lookup f8 = some ⟨oc8, od8, .func (PySem.W.fnOf "_law_text" "_law_text" (defArgs sText) (defBody sText) (defScope sText) .none kV8 dc8 pm8 an8 cd8 ct8), sl8⟩)
    (c8 : PySem.W.codeIn K cd8 "_law_text" = true) (k8 : PySem.W.keepIn K (.ref f8) = true)
    (a9 : PySem.W.nsIn K mainGlobals "_law_number" = some (some (.ref f9)))
    (l9 : K.lookup f9 = some ⟨oc9, od9, .func (PySem.W.fnOf "_law_number" "_law_number" (defArgs sNumber) (defBody sNumber) (defScope sNumber) .none kV9 dc9 pm9 an9 cd9 ct9), sl9⟩)
    (c9 : PySem.W.codeIn K cd9 "_law_number" = true) (k9 : PySem.W.keepIn K (.ref f9) = true)
    (a10 : PySem.W.nsIn K mainGlobals "_law_odd" = some (some (.ref f10)))
    (l10 : K.lookup f10 = some ⟨oc10, od10, .func (PySem.W.fnOf "_law_odd" "_law_odd" (defArgs sOdd) (defBody sOdd) (defScope sOdd) .none kV10 dc10 pm10 an10 cd10 ct10), sl10⟩)
    (c10 : PySem.W.codeIn K cd10 "_law_odd" = true) (k10 : PySem.W.keepIn K (.ref f10) = true)
    (a11 : PySem.W.nsIn K mainGlobals "_law_right" = some (some (.ref f11)))
    (l11 : K.lookup f11 = some ⟨oc11, od11, .func (PySem.W.fnOf "_law_right" "_law_right" (defArgs sRight) (defBody sRight) (defScope sRight) .none kV11 dc11 pm11 an11 cd11 ct11), sl11⟩)
    (c11 : PySem.W.codeIn K cd11 "_law_right" = true) (k11 : PySem.W.keepIn K (.ref f11) = true)
    (a12 : PySem.W.nsIn K mainGlobals "law" = some (some (.ref f12)))
    (l12 : K.lookup f12 = some ⟨oc12, od12, .func (PySem.W.fnOf "law" "law" (defArgs sLaw) (defBody sLaw) (defScope sLaw) .none kV12 dc12 pm12 an12 cd12 ct12), sl12⟩)
    (c12 : PySem.W.codeIn K cd12 "law" = true) (k12 : PySem.W.keepIn K (.ref f12) = true)
    (aL : PySem.W.nsIn K mainGlobals "LETTERS" = some (some (.str LET t1)))
    (aM : PySem.W.nsIn K mainGlobals "MOST_LETTERS" = some (some (.int 8 t2)))
    (zlen : PySem.W.nsIn K mainGlobals "len" = some none)
    (zabs : PySem.W.nsIn K mainGlobals "abs" = some none)
    (zmax : PySem.W.nsIn K mainGlobals "max" = some none)
    (zmin : PySem.W.nsIn K mainGlobals "min" = some none)
    (zdivmod : PySem.W.nsIn K mainGlobals "divmod" = some none)
    (zisi : PySem.W.nsIn K mainGlobals "isinstance" = some none)
    (zstr : PySem.W.nsIn K mainGlobals "str" = some none)
    (zint : PySem.W.nsIn K mainGlobals "int" = some none)
    (zbool : PySem.W.nsIn K mainGlobals "bool" = some none)
    (zall : PySem.W.nsIn K mainGlobals "all" = some none)
    (zrange : PySem.W.nsIn K mainGlobals "range" = some none)
    (zrepr : PySem.W.nsIn K mainGlobals "repr" = some none)
    : ∃ fd : FuncData, (∀ (s : Shared) (v : Value), BindsTo s fd ⟨[v], []⟩ [("_law_script", v)]) ∧
      ∀ bs : Heap, K.In bs → bs.Ns mainGlobals mg → FnG l.prog w K mg bs CX0 4 fa fd ["_law_script"] (spLaw K) := by
  have e := hfa.symm.trans (PySem.W.mg_of X gl a12)
  cases e
  have T : Txt mg := ⟨PySem.W.mg_none_of X gl zlen, PySem.W.mg_none_of X gl zabs, PySem.W.mg_none_of X gl zmax, PySem.W.mg_none_of X gl zmin, PySem.W.mg_none_of X gl zdivmod, PySem.W.mg_none_of X gl zisi, PySem.W.mg_none_of X gl zstr, PySem.W.mg_none_of X gl zint, PySem.W.mg_none_of X gl zbool, PySem.W.mg_none_of X gl zall, PySem.W.mg_none_of X gl zrange, PySem.W.mg_none_of X gl zrepr⟩
  have gL := PySem.W.mg_of X gl aL
  have gM := PySem.W.mg_of X gl aM
  have F1 := fun_mk (st := sIsName) l1 c1 k1
  have b1 := F1.binds (ps := ["value"]) fun _ _ _ _ _ _ us hl => match us, hl with | [_], _ => rfl
  have g1 := PySem.W.mg_of X gl a1
  have F2 := fun_mk (st := sIsVer) l2 c2 k2
  have b2 := F2.binds (ps := ["value"]) fun _ _ _ _ _ _ us hl => match us, hl with | [_], _ => rfl
  have g2 := PySem.W.mg_of X gl a2
  have F3 := fun_mk (st := sRng) l3 c3 k3
  have b3 := F3.binds (ps := ["_law_script", "_law_k"]) fun _ _ _ _ _ _ us hl => match us, hl with | [_, _], _ => rfl
  have g3 := PySem.W.mg_of X gl a3
  have F4 := fun_mk (st := sDraw) l4 c4 k4
  have b4 := F4.binds (ps := ["_law_rng_here", "_law_many"]) fun _ _ _ _ _ _ us hl => match us, hl with | [_, _], _ => rfl
  have g4 := PySem.W.mg_of X gl a4
  have F5 := fun_mk (st := sChoice) l5 c5 k5
  have b5 := F5.binds (ps := ["_law_rng_here", "_law_options"]) fun _ _ _ _ _ _ us hl => match us, hl with | [_, _], _ => rfl
  have g5 := PySem.W.mg_of X gl a5
  have F6 := fun_mk (st := sLName) l6 c6 k6
  have b6 := F6.binds (ps := ["_law_value"]) fun _ _ _ _ _ _ us hl => match us, hl with | [_], _ => rfl
  have g6 := PySem.W.mg_of X gl a6
  have F7 := fun_mk (st := sLVer) l7 c7 k7
  have b7 := F7.binds (ps := ["_law_value"]) fun _ _ _ _ _ _ us hl => match us, hl with | [_], _ => rfl
  have g7 := PySem.W.mg_of X gl a7
  have F8 := fun_mk (st := sText) l8 c8 k8
  have b8 := F8.binds (ps := ["_law_rng_here"]) fun _ _ _ _ _ _ us hl => match us, hl with | [_], _ => rfl
  have g8 := PySem.W.mg_of X gl a8
  have F9 := fun_mk (st := sNumber) l9 c9 k9
  have b9 := F9.binds (ps := ["_law_rng_here"]) fun _ _ _ _ _ _ us hl => match us, hl with | [_], _ => rfl
  have g9 := PySem.W.mg_of X gl a9
  have F10 := fun_mk (st := sOdd) l10 c10 k10
  have b10 := F10.binds (ps := ["_law_rng_here"]) fun _ _ _ _ _ _ us hl => match us, hl with | [_], _ => rfl
  have g10 := PySem.W.mg_of X gl a10
  have F11 := fun_mk (st := sRight) l11 c11 k11
  have b11 := F11.binds (ps := ["_law_value"]) fun _ _ _ _ _ _ us hl => match us, hl with | [_], _ => rfl
  have g11 := PySem.W.mg_of X gl a11
  exact ⟨PySem.W.fnOf "law" "law" (defArgs sLaw) (defBody sLaw) (defScope sLaw) .none kV12 dc12 pm12 an12 cd12 ct12, fun s v => .of_eq rfl, fun bs _ _ =>
    ok_law (fun_mk (st := sLaw) l12 c12 k12) T (ok_rng F3 T) F3.kp b3 g3 (ok_text F8 T F4 b4 g4) F8.kp b8 g8 (ok_num F9 T F4 b4 g4) F9.kp b9 g9
      (ok_odd F10 T F4 b4 g4 F5 b5 g5) F10.kp b10 g10 (ok_right F11 T gL gM F1 b1 g1 F2 b2 g2 F6 b6 g6 F7 b7 g7) F11.kp b11 g11⟩
theorem walk {l : PySem.W.OpenLaw} {q : Program} {loose : List Str} {XP : (Str → Option Value) → Heap → Prop} {YP : World → Heap → Prop} {d : DefRec} {K : Params → PySem.W.Frag}
    (hn : l.most = some 63) (hdf : d.params.defaults = []) (hY : ∀ (w : World) (h : Heap), YP w h → (K w.params).In h)
    (F : ∀ (w : World) (mg : Str → Option Value) (fa : Addr) (h : Heap), (K w.params).In h → h.Ns mainGlobals mg → mg d.name = some (.ref fa) →
      ∃ fd : FuncData, (∀ (s : Shared) (u : Value), BindsTo s fd ⟨[u], []⟩ [("_law_script", u)]) ∧
        ∀ bs : Heap, (K w.params).In bs → bs.Ns mainGlobals mg → FnG l.prog w (K w.params) mg bs CX0 4 fa fd ["_law_script"] (spLaw (K w.params))) :
    PySem.W.WalkO q loose XP YP l.row.toRowW d [] (fun f vs => PySem.call f vs) :=
  walk_ofG (n := 63) (k := 4) (x := "_law_script") (sp := fun w => spLaw (K w.params)) hn (by decide) hdf ⟨rfl, by decide, by decide⟩ hY F
    (fun _ _ a ns hl _ hS => ⟨a, ns, rfl, hS, hl, fun _ => rfl⟩)
end N1

open PySem PySem.W PyProof.Rows in
set_option maxRecDepth 100000 in
set_option maxHeartbeats 0 in
theorem PySem.Challenge.cw_groupsteps_k11_names_and_versions_holds : PySem.Challenge.rw_groupsteps_k11_names_and_versions.Holds := by
  w_on; o_law; k_head; (case hw => w_witness2)
  k_fill
  refine N1.walk (l := PySem.Challenge.rw_groupsteps_k11_names_and_versions) rfl rfl (fun w h Y => PySem.W.kIn_of Y) ?F
  case F =>
    intro w mg fa h KX gl hmg
    refine' N1.all_mk KX gl hmg ?a1 ?l1 ?c1 ?k1 ?a2 ?l2 ?c2 ?k2 ?a3 ?l3 ?c3 ?k3 ?a4 ?l4 ?c4 ?k4 ?a5 ?l5 ?c5 ?k5 ?a6 ?l6 ?c6 ?k6 ?a7 ?l7 ?c7 ?k7 ?a8 ?l8 ?c8 ?k8 ?a9 ?l9 ?c9 ?k9 ?a10 ?l10 ?c10 ?k10 ?a11 ?l11 ?c11 ?k11 ?a12 ?l12 ?c12 ?k12 ?aL ?aM ?zlen ?zabs ?zmax ?zmin ?zdivmod ?zisi ?zstr ?zint ?zbool ?zall ?zrange ?zrepr
    (case a1 => k_is)
    (case l1 => k_is)
    (case c1 => k_is)
    (case k1 => k_is)
    (case a2 => k_is)
    (case l2 => k_is)
    (case c2 => k_is)
    (case k2 => k_is)
    (case a3 => k_is)
    (case l3 => k_is)
    (case c3 => k_is)
    (case k3 => k_is)
    (case a4 => k_is)
    (case l4 => k_is)
    (case c4 => k_is)
    (case k4 => k_is)
    (case a5 => k_is)
    (case l5 => k_is)
    (case c5 => k_is)
    (case k5 => k_is)
    (case a6 => k_is)
    (case l6 => k_is)
    (case c6 => k_is)
    (case k6 => k_is)
    (case a7 => k_is)
    (case l7 => k_is)
    (case c7 => k_is)
    (case k7 => k_is)
    (case a8 => k_is)
    (case l8 => k_is)
    (case c8 => k_is)
    (case k8 => k_is)
    (case a9 => k_is)
    (case l9 => k_is)
    (case c9 => k_is)
    (case k9 => k_is)
    (case a10 => k_is)
    (case l10 => k_is)
    (case c10 => k_is)
    (case k10 => k_is)
    (case a11 => k_is)
    (case l11 => k_is)
    (case c11 => k_is)
    (case k11 => k_is)
    (case a12 => k_is)
    (case l12 => k_is)
    (case c12 => k_is)
    (case k12 => k_is)
    (case aL => k_is)
    (case aM => k_is)
    (case zlen => k_is)
    (case zabs => k_is)
    (case zmax => k_is)
    (case zmin => k_is)
    (case zdivmod => k_is)
    (case zisi => k_is)
    (case zstr => k_is)
    (case zint => k_is)
    (case zbool => k_is)
    (case zall => k_is)
    (case zrange => k_is)
    (case zrepr => k_is)
